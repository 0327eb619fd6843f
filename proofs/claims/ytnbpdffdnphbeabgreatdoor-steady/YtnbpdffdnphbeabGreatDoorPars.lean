import Derived.Test.YtnbpdffdnphbeabGreatDoorAmongs
open Go.Proofs.Tryz
set_option maxHeartbeats 1000000
namespace Go.Proofs.YtnbpdffdnphbeabGreatDoor
open Go.RowKit
variable{R k:Nat}{w w':World}
abbrev St:=Nat × Bool
variable{s:St}
def zD(P:List PT)(t:Bs)(s:St):Bool × St:=(tN P t s.1 s.2,(Xe (tN P t s.1 s.2) s.1,s.2))
def zR(P:List PT)(t:Bs)(s:St):St:=(Xe (tN P t s.1 s.2) s.1,!tN P t s.1 s.2)
def zI(P:List PT)(s:St):Bs × St:=((tk (qH P 2 s.1 s.2) (yB P s.1)).s,(Xe (qH P 2 s.1 s.2) s.1,!qH P 2 s.1 s.2))
def yI(P:List PT)(s:St):Int × St:=((tk (qH P 3 s.1 s.2) (yB P s.1)).v,(Xe (qH P 3 s.1 s.2) s.1,!qH P 3 s.1 s.2))
def jM(P:List PT)(s:St):Bool:=(yB P s.1).k==3
structure yT where
 minus:Bool
 ak:Bool
 num:Int
 name:Bs
def vV(P:List PT)(m:Bool)(s:St):yT × St :=
 match jM P s with
 | true =>
   match (zD P [42] (yI P s).2).1 with
   | true=>(⟨m,true,(yI P s).1,(zI P (zD P [42] (yI P s).2).2).1⟩,(zI P (zD P [42] (yI P s).2).2).2)
   | false=>(⟨m,false,(yI P s).1,[]⟩,(zD P [42] (yI P s).2).2)
 | false=>(⟨m,false,0,(zI P s).1⟩,(zI P s).2)
abbrev vI(w:World)(R g cap:Nat)(P:List PT)(s:St):Prop:=yL w R g cap P s.1 s.2
def Sl(R g cap:Nat)(P:List PT):Prop:=∀(w:World) (s:St) (t:Bs),vI w R g cap P s ->
    Calls prog 103 #[.pointer (some ⟨R,0,none⟩),.string ⟨t.toArray⟩] w λe w'=>e=.returned (.bool (zD P t s).1)/\vI w' R g cap P (zD P t s).2/\zB w.heap.size R w w'
theorem vG(R g cap:Nat)(P:List PT):Sl R g cap P:=λw s t h=>F8 w R g cap P s.1 s.2 h t
def TH(R g cap:Nat)(P:List PT):Prop:=∀(w:World) (s:St) (t:Bs),vI w R g cap P s ->
    Calls prog 107 #[.pointer (some ⟨R,0,none⟩),.string ⟨t.toArray⟩] w λe w'=>e=.returned (.tuple #[])/\vI w' R g cap P (zR P t s)/\zB w.heap.size R w w'
theorem gQ(R g cap:Nat)(P:List PT):TH R g cap P:=λw s t h=>PL w R g cap P s.1 s.2 h t
def SB(R g cap:Nat)(P:List PT):Prop:=∀(w:World) (s:St),vI w R g cap P s ->
    Calls prog 149 #[.pointer (some ⟨R,0,none⟩)] w λe w'=>e=.returned (.string ⟨(zI P s).1.toArray⟩)/\vI w' R g cap P (zI P s).2/\zB w.heap.size R w w'
theorem bM(R g cap:Nat)(P:List PT):SB R g cap P:=λw s h=>OI w R g cap P s.1 s.2 h
def Da(R g cap:Nat)(P:List PT):Prop:=∀(w:World) (s:St),vI w R g cap P s ->
    Calls prog 150 #[.pointer (some ⟨R,0,none⟩)] w λe w'=>e=.returned (.int .i64 (yI P s).1)/\vI w' R g cap P (yI P s).2/\zB w.heap.size R w w'
theorem sC(R g cap:Nat)(P:List PT):Da R g cap P:=λw s h=>xq w R g cap P s.1 s.2 h
def SG(R g cap:Nat)(P:List PT):Prop:=∀(w:World) (s:St) (kd:Int),vI w R g cap P s ->
    Calls prog 71 #[.pointer (some ⟨R,0,none⟩),.int .i64 kd] w λe w'=>e=.returned (.bool ((yB P s.1).k==kd))/\vI w' R g cap P s/\zB w.heap.size R w w'
theorem iR(R g cap:Nat)(P:List PT):SG R g cap P:=λw s kd h=>OO w R g cap P s.1 s.2 h kd
section
variable {w:World} {R g cap:Nat} {P:List PT} {s:St}
theorem yL.alloc(h:vI w R g cap P s)(o:Obj):vI (w.alloc o) R g cap P s :=
 h.keeps (bO h.gf h.blk) ((zB.refl _ _ _).alloc (tg _) _) h.at'
theorem yL.drew(h:vI w R g cap P s):vI w.drew R g cap P s:=h.keeps h.blk (zB.refl _ _ _).drew h.at'
theorem yL.setCell(h:vI w R g cap P s){p:Addr}(hr:p.block≠R)(hg:p.block≠g)(u:Value):vI (w.setCell p u) R g cap P s:=by
 refine⟨?_,?_,h.gR,by rw[zL];exact h.ey,h.at',h.s7,h.s6,h.many,h.nr⟩
 ·rw[l6 _ _ _ _ (Ne.symm hr)];exact h.blk
 ·intro i hi
  have hb:∀o,(w.setCell p u).cell? ⟨g,o,none⟩=w.cell? ⟨g,o,none⟩:=λo=>bq (w:=w) (l6 _ _ _ _ (Ne.symm hg));rw[hb,hb,hb,hb];exact h.tok i hi
end
theorem yL.set{g cap:Nat}{P:List PT}{b o:Nat}{u:Value}(h:vI w R g cap P s)(hr:b≠R)(hg:b≠g):vI (w.setCell ⟨b,o,none⟩ u) R g cap P s:=yL.setCell h (p:=⟨b,o,none⟩) hr hg u
theorem zB.set{b o:Nat}{u:Value}(h:zB w.heap.size R w w')(hb:w.heap.size<=b):zB w.heap.size R w (w'.setCell ⟨b,o,none⟩ u):=zB.setCell h (p:=⟨b,o,none⟩) (.inl hb) u
theorem zB.new{x:Obj}(h:zB w.heap.size R w w'):zB w.heap.size R w (w'.alloc x):=zB.alloc h h.size x
theorem zB.step{W w1:World}(h:zB w.heap.size R w W)(k:zB W.heap.size R W w1):zB w.heap.size R w w1:=h.trans (k.mono h.size)
def fX(x:yT):Value:=.agg #[.bool x.minus,.bool x.ak,.int .i64 x.num,.string ⟨x.name.toArray⟩]
theorem Ml(w:World)(R g cap:Nat)(P:List PT)(m:Bool)(s:St)(h:vI w R g cap P s) :
 Calls prog 181 #[.pointer (some ⟨R,0,none⟩),.bool m] w λe w'=>e=.returned (fX (vV P m s).1)/\vI w' R g cap P (vV P m s).2/\zB w.heap.size R w w':=by
 have hR:=h.gf;have hg:=h.ey;have n0:w.heap.size≠R:=by omega
 have n1:w.heap.size+1≠R:=by omega
 have m0:w.heap.size≠g:=by omega
 have m1:w.heap.size+1≠g:=by omega
 have bI:=zA h;clear h;cases hb:jM P s
 ·have HP:Hid (vV P m s=(⟨m,false,0,(zI P s).1⟩,(zI P s).2)):=by unfold Hid vV;rw[hb]
  have HN:=zA hb;clear hb
  go_enter func181,ntmps181
  go_wp2_with fail
  refine(iR R g cap P _ s 3 (yL.alloc (yL.alloc bI.out _) _)).mono ?_;rintro e w1 ⟨rfl,hc1,aC⟩;rw[show ((yB P s.1).k==3)=false from HN.out];have aR:=zA hc1;have aq:Hid (zB w.heap.size R w w1):=zB.step (zB.new (zB.new (zB.refl _ _ _))) aC;have aN:=λo=>aC.cell (p:=⟨w.heap.size,o,none⟩) (by simp;try omega) n0;have ae:=λo=>aC.frozen (p:=⟨w.heap.size,o,none⟩) (by simp;try omega) n0;have aB:w.heap.size<w1.heap.size:=tq (by simp;try omega) aC.size;have ag:=λo=>aC.cell (p:=⟨w.heap.size+1,o,none⟩) (by simp;try omega) n1;have aa:=λo=>aC.frozen (p:=⟨w.heap.size+1,o,none⟩) (by simp;try omega) n1;have aA:w.heap.size+1<w1.heap.size:=tq (by simp;try omega) aC.size;clear hc1 aC;go_wp2_with fail
  refine(bM R g cap P _ s aR.out).mono ?_;rintro e w2 ⟨rfl,aP,aG⟩;have aU:=zA aP;have ao:Hid (zB w.heap.size R w w2):=zB.step aq.out aG;have aM:=λo=>aG.cell (p:=⟨w.heap.size,o,none⟩) (by first|exact aB|(simp only[zL];exact aB)) n0;have aZ:=λo=>aG.frozen (p:=⟨w.heap.size,o,none⟩) (by first|exact aB|(simp only[zL];exact aB)) n0;have aF:w.heap.size<w2.heap.size:=tq (by first|exact aB|(simp only[zL];exact aB)) aG.size;have af:=λo=>aG.cell (p:=⟨w.heap.size+1,o,none⟩) (by first|exact aA|(simp only[zL];exact aA)) n1;have aY:=λo=>aG.frozen (p:=⟨w.heap.size+1,o,none⟩) (by first|exact aA|(simp only[zL];exact aA)) n1;have aD:w.heap.size+1<w2.heap.size:=tq (by first|exact aA|(simp only[zL];exact aA)) aG.size;clear aP aG;go_wp2_with fail
  refine pe (v:=fX ⟨m,false,0,(zI P s).1⟩) (by simp[results,results181,go_sem,fX,aN,aM]) rfl ⟨by rw[HP.out],by rw[HP.out];exact(yL.set (yL.set (yL.set (yL.set (yL.set aU.out n1 m1) n0 m0) n0 m0) n0 m0) n0 m0),(zB.set (zB.set (zB.set (zB.set (zB.set ao.out (ms _)) (tg _)) (tg _)) (tg _)) (tg _))⟩
 ·have HN:=zA hb
  cases hs:(zD P [42] (yI P s).2).1
  ·have HP:Hid (vV P m s=(⟨m,false,(yI P s).1,[]⟩,(zD P [42] (yI P s).2).2)):=by unfold Hid vV;rw[hb];simp only[hs]
   have HS:=zA hs;clear hb hs
   go_enter func181,ntmps181
   go_wp2_with fail
   refine(iR R g cap P _ s 3 (yL.alloc (yL.alloc bI.out _) _)).mono ?_;rintro e w1 ⟨rfl,hc1,aC⟩;rw[show ((yB P s.1).k==3)=true from HN.out];have aR:=zA hc1;have aq:Hid (zB w.heap.size R w w1):=zB.step (zB.new (zB.new (zB.refl _ _ _))) aC;have aN:=λo=>aC.cell (p:=⟨w.heap.size,o,none⟩) (by simp;try omega) n0;have ae:=λo=>aC.frozen (p:=⟨w.heap.size,o,none⟩) (by simp;try omega) n0;have aB:w.heap.size<w1.heap.size:=tq (by simp;try omega) aC.size;have ag:=λo=>aC.cell (p:=⟨w.heap.size+1,o,none⟩) (by simp;try omega) n1;have aa:=λo=>aC.frozen (p:=⟨w.heap.size+1,o,none⟩) (by simp;try omega) n1;have aA:w.heap.size+1<w1.heap.size:=tq (by simp;try omega) aC.size;clear hc1 aC;go_wp2_with fail
   refine(sC R g cap P _ s aR.out).mono ?_;rintro e w2 ⟨rfl,aP,aG⟩;have aU:=zA aP;have ao:Hid (zB w.heap.size R w w2):=zB.step aq.out aG;have aM:=λo=>aG.cell (p:=⟨w.heap.size,o,none⟩) (by first|exact aB|(simp only[zL];exact aB)) n0;have aZ:=λo=>aG.frozen (p:=⟨w.heap.size,o,none⟩) (by first|exact aB|(simp only[zL];exact aB)) n0;have aF:w.heap.size<w2.heap.size:=tq (by first|exact aB|(simp only[zL];exact aB)) aG.size;have af:=λo=>aG.cell (p:=⟨w.heap.size+1,o,none⟩) (by first|exact aA|(simp only[zL];exact aA)) n1;have aY:=λo=>aG.frozen (p:=⟨w.heap.size+1,o,none⟩) (by first|exact aA|(simp only[zL];exact aA)) n1;have aD:w.heap.size+1<w2.heap.size:=tq (by first|exact aA|(simp only[zL];exact aA)) aG.size;clear aP aG;go_wp2_with fail
   refine(vG R g cap P _ (yI P s).2 [42] (yL.set aU.out n1 m1)).mono ?_;rintro e w3 ⟨rfl,aS,aH⟩;rw[HS.out];have aQ:=zA aS;have bF:Hid (zB w.heap.size R w w3):=zB.step (zB.set ao.out (ms _)) aH;have aV:=λo=>aH.cell (p:=⟨w.heap.size,o,none⟩) (by first|exact aF|(simp only[zL];exact aF)) n0;have bB:=λo=>aH.frozen (p:=⟨w.heap.size,o,none⟩) (by first|exact aF|(simp only[zL];exact aF)) n0;have aJ:w.heap.size<w3.heap.size:=tq (by first|exact aF|(simp only[zL];exact aF)) aH.size;have bD:=λo=>aH.cell (p:=⟨w.heap.size+1,o,none⟩) (by first|exact aD|(simp only[zL];exact aD)) n1;have bA:=λo=>aH.frozen (p:=⟨w.heap.size+1,o,none⟩) (by first|exact aD|(simp only[zL];exact aD)) n1;have aI:w.heap.size+1<w3.heap.size:=tq (by first|exact aD|(simp only[zL];exact aD)) aH.size;clear aS aH;go_wp2_with fail
   refine pe (v:=fX ⟨m,false,(yI P s).1,[]⟩) (by simp[results,results181,go_sem,fX,aN,aM,aV]) rfl ⟨by rw[HP.out],by rw[HP.out];exact(yL.set (yL.set (yL.set (yL.set (yL.set aQ.out n1 m1) n0 m0) n0 m0) n0 m0) n0 m0),(zB.set (zB.set (zB.set (zB.set (zB.set bF.out (ms _)) (tg _)) (tg _)) (tg _)) (tg _))⟩
  ·have HP:Hid (vV P m s=(⟨m,true,(yI P s).1,(zI P (zD P [42] (yI P s).2).2).1⟩,(zI P (zD P [42] (yI P s).2).2).2)):=by unfold Hid vV;rw[hb];simp only[hs]
   have HS:=zA hs;clear hb hs
   go_enter func181,ntmps181
   go_wp2_with fail
   refine(iR R g cap P _ s 3 (yL.alloc (yL.alloc bI.out _) _)).mono ?_;rintro e w1 ⟨rfl,hc1,aC⟩;rw[show ((yB P s.1).k==3)=true from HN.out];have aR:=zA hc1;have aq:Hid (zB w.heap.size R w w1):=zB.step (zB.new (zB.new (zB.refl _ _ _))) aC;have aN:=λo=>aC.cell (p:=⟨w.heap.size,o,none⟩) (by simp;try omega) n0;have ae:=λo=>aC.frozen (p:=⟨w.heap.size,o,none⟩) (by simp;try omega) n0;have aB:w.heap.size<w1.heap.size:=tq (by simp;try omega) aC.size;have ag:=λo=>aC.cell (p:=⟨w.heap.size+1,o,none⟩) (by simp;try omega) n1;have aa:=λo=>aC.frozen (p:=⟨w.heap.size+1,o,none⟩) (by simp;try omega) n1;have aA:w.heap.size+1<w1.heap.size:=tq (by simp;try omega) aC.size;clear hc1 aC;go_wp2_with fail
   refine(sC R g cap P _ s aR.out).mono ?_;rintro e w2 ⟨rfl,aP,aG⟩;have aU:=zA aP;have ao:Hid (zB w.heap.size R w w2):=zB.step aq.out aG;have aM:=λo=>aG.cell (p:=⟨w.heap.size,o,none⟩) (by first|exact aB|(simp only[zL];exact aB)) n0;have aZ:=λo=>aG.frozen (p:=⟨w.heap.size,o,none⟩) (by first|exact aB|(simp only[zL];exact aB)) n0;have aF:w.heap.size<w2.heap.size:=tq (by first|exact aB|(simp only[zL];exact aB)) aG.size;have af:=λo=>aG.cell (p:=⟨w.heap.size+1,o,none⟩) (by first|exact aA|(simp only[zL];exact aA)) n1;have aY:=λo=>aG.frozen (p:=⟨w.heap.size+1,o,none⟩) (by first|exact aA|(simp only[zL];exact aA)) n1;have aD:w.heap.size+1<w2.heap.size:=tq (by first|exact aA|(simp only[zL];exact aA)) aG.size;clear aP aG;go_wp2_with fail
   refine(vG R g cap P _ (yI P s).2 [42] (yL.set aU.out n1 m1)).mono ?_;rintro e w3 ⟨rfl,aS,aH⟩;rw[HS.out];have aQ:=zA aS;have bF:Hid (zB w.heap.size R w w3):=zB.step (zB.set ao.out (ms _)) aH;have aV:=λo=>aH.cell (p:=⟨w.heap.size,o,none⟩) (by first|exact aF|(simp only[zL];exact aF)) n0;have bB:=λo=>aH.frozen (p:=⟨w.heap.size,o,none⟩) (by first|exact aF|(simp only[zL];exact aF)) n0;have aJ:w.heap.size<w3.heap.size:=tq (by first|exact aF|(simp only[zL];exact aF)) aH.size;have bD:=λo=>aH.cell (p:=⟨w.heap.size+1,o,none⟩) (by first|exact aD|(simp only[zL];exact aD)) n1;have bA:=λo=>aH.frozen (p:=⟨w.heap.size+1,o,none⟩) (by first|exact aD|(simp only[zL];exact aD)) n1;have aI:w.heap.size+1<w3.heap.size:=tq (by first|exact aD|(simp only[zL];exact aD)) aH.size;clear aS aH;go_wp2_with fail
   refine(bM R g cap P _ (zD P [42] (yI P s).2).2 (yL.set aQ.out n1 m1)).mono ?_;rintro e w4 ⟨rfl,aj,aL⟩;have aX:=zA aj;have bh:Hid (zB w.heap.size R w w4):=zB.step (zB.set bF.out (ms _)) aL;have bC:=λo=>aL.cell (p:=⟨w.heap.size,o,none⟩) (by first|exact aJ|(simp only[zL];exact aJ)) n0;have bV:=λo=>aL.frozen (p:=⟨w.heap.size,o,none⟩) (by first|exact aJ|(simp only[zL];exact aJ)) n0;have bT:w.heap.size<w4.heap.size:=tq (by first|exact aJ|(simp only[zL];exact aJ)) aL.size;have bW:=λo=>aL.cell (p:=⟨w.heap.size+1,o,none⟩) (by first|exact aI|(simp only[zL];exact aI)) n1;have bU:=λo=>aL.frozen (p:=⟨w.heap.size+1,o,none⟩) (by first|exact aI|(simp only[zL];exact aI)) n1;have bS:w.heap.size+1<w4.heap.size:=tq (by first|exact aI|(simp only[zL];exact aI)) aL.size;clear aj aL;go_wp2_with fail
   refine pe (v:=fX ⟨m,true,(yI P s).1,(zI P (zD P [42] (yI P s).2).2).1⟩) (by simp[results,results181,go_sem,fX,aN,aM,aV,bC]) rfl ⟨by rw[HP.out],by rw[HP.out];exact(yL.set (yL.set (yL.set (yL.set (yL.set aX.out n1 m1) n0 m0) n0 m0) n0 m0) n0 m0),(zB.set (zB.set (zB.set (zB.set (zB.set bh.out (ms _)) (tg _)) (tg _)) (tg _)) (tg _))⟩
def tB(P:List PT):Nat->Bool->St->List yT->List yT × St
 | 0,_,s,ps=>(ps,s)
 | n+1,m,s,ps =>
   match (zD P [45] (vV P m s).2).1 with
   | true=>tB P n true (zD P [45] (vV P m s).2).2 (ps++[(vV P m s).1])
   | false =>
     match (zD P [43] (zD P [45] (vV P m s).2).2).1 with
     | true=>tB P n false (zD P [43] (zD P [45] (vV P m s).2).2).2 (ps++[(vV P m s).1])
     | false=>(ps++[(vV P m s).1],(zD P [43] (zD P [45] (vV P m s).2).2).2)
def jS(P:List PT)(s:St):List yT × St:=tB P P.length false s []
def YJ(x:yT):List Value:=[.bool x.minus,.bool x.ak,.int .i64 x.num,.string ⟨x.name.toArray⟩]
def bX(ps:List yT):List Value:=ps.flatMap YJ
theorem DL(ps:List yT)(x:yT):bX (ps++[x])=bX ps++YJ x:=by simp[bX]
theorem fK(b:Bool)(a:Nat):a<=Xe b a:=by cases b <;> simp[Xe]
theorem XV(P:List PT)(m:Bool)(s:St):s.1<=(vV P m s).2.1:=by
 have h1:=fK (qH P 3 s.1 s.2) s.1;have h2:=fK (qH P 2 s.1 s.2) s.1;unfold vV;split
 ·have h3:=fK (tN P [42] (yI P s).2.1 (yI P s).2.2) (yI P s).2.1
  split
  ·have h4:=fK (qH P 2 (zD P [42] (yI P s).2).2.1 (zD P [42] (yI P s).2).2.2) (zD P [42] (yI P s).2).2.1
   simp only[zI,zD,yI]at h3 h4 ⊢;omega
  ·simp only[zD,yI]at h3 ⊢;omega
 ·exact h2
theorem qL{P:List PT}{t:Bs}(h:(zD P t s).1=true):(zD P t s).2.1=s.1+1:=by
 simp only[zD]at h ⊢;rw[h];rfl
theorem xO(P:List PT)(t:Bs)(s:St):s.1<=(zD P t s).2.1:=fK _ _
theorem uK{B:Nat}{e:TypeId}{size:Nat}{v:Value}{n:Nat}{xs:List Value}(h:w.ownsRow B e size v n xs)(hb:zB w.heap.size R w w')(hR:R<B):w'.ownsRow B e size v n xs:=by
 refine⟨h.1,?_⟩;rcases h.2 with h1|⟨g,cap,yB,h1,h2,h3,r⟩
 ·exact .inl h1
 ·refine .inr ⟨g,cap,yB,h1,h2,?_,r⟩
  have hg:g<w.heap.size:=by
   rcases mc g w.heap.size with h|h
   ·exact h
   ·rw[pw h]at h3;cases h3
  rw[hb.block g hg (by omega)];exact h3
theorem zK{a:Addr}{v:Value}(h:k<w.heap.size):k<(w.setCell a v).heap.size:=by rw[zL];exact h
theorem bN{o:Obj}(h:k<w.heap.size):k<(w.alloc o).heap.size:=by simp;omega
theorem zY(w:World)(o:Obj):w.heap.size<(w.alloc o).heap.size:=by simp
theorem Zz(h:k<w.heap.size):k<w.drew.heap.size:=h
theorem Rc:(prog.info? 235).map (λi=>(i.zero,i.size,i.bytes))=some (some (.agg #[.bool false,.bool false,.int .i64 0,.string ⟨#[]⟩]),4,32):=by kernel_rfl
theorem yL.grown{g cap:Nat}{P:List PT}{row:Option Nat}(h:vI w R g cap P s)(hg:w.grownBy w' row)(h1:row≠some R)(h2:row≠some g):vI w' R g cap P s:=by
 refine⟨?_,?_,h.gR,tq h.ey hg.size,h.at',h.s7,h.s6,h.many,h.nr⟩
 ·rw[hg.block R h.gf (Ne.symm h1)];exact h.blk
 ·intro i hi
  have hb:∀o,w'.cell? ⟨g,o,none⟩=w.cell? ⟨g,o,none⟩:=λo=>bq (w:=w) (hg.block g h.ey (Ne.symm h2));rw[hb,hb,hb,hb];exact h.tok i hi
theorem zB.grown{B:Nat}{a:World}{row:Option Nat}(h:zB B R a w)(hg:w.grownBy w' row)(hB:B<=w.heap.size)(hr:∀k,row=some k->B<=k):zB B R a w' :=
 h.trans ⟨hg.os,hg.tape,hg.output,hg.size,λk hk _=>hg.block k (by omega) (λe=>by have:=hr k e.symm;omega)⟩
def A5(w:World)(R:Nat):Nat:=match w.cell? ⟨R,1,none⟩ with|some v=>(intOf v).toNat|none=>0
def Zc(L R:Nat)(ov:Value)(w:World):Nat:=match ov with | .bool true=>L-A5 w R|_=>0
theorem yL.AZ{g cap:Nat}{P:List PT}(h:vI w R g cap P s):A5 w R=s.1:=by
 unfold A5;rw[h.cells.2.1];simp[intOf]
theorem yL.meas{g cap:Nat}{P:List PT}(h:vI w R g cap P s):Zc P.length R (.bool true) w=P.length-s.1:=by
 simp only[Zc];rw[yL.AZ h]
theorem Lj(w:World)(R g cap:Nat)(P:List PT)(s0:St)(h:vI w R g cap P s0) :
 Calls prog 151 #[.pointer (some ⟨R,0,none⟩)] w λe w'=>∃v,e=.returned v/\w'.ownsRow w.heap.size 235 4 v (jS P s0).1.length (bX (jS P s0).1)/\vI w' R g cap P (jS P s0).2/\zB w.heap.size R w w':=by
 obtain⟨i0,ai,hz0,hz1,bY⟩:=du Rc;have hR:=h.gf;have hg:=h.ey;have bP:=h.many;have bf:=h.at';have HC:=zA h;obtain⟨B,hB⟩:∃B,B=w.heap.size:=⟨_,rfl⟩;have HB:Hid (B=w.heap.size):=hB;rw[<-hB];have bE:R<B:=by omega
 have bk:g<B:=by omega
 have HF:Hid (jS P s0=tB P P.length false s0 []):=rfl;generalize jS P s0=F at *;clear h hB hR hg
 go_enter func151,ntmps151
 go_wp2_with fail
 have h0:(w.alloc (.cells #[] 235)).ownsRow B 235 4 (.slice (some ⟨w.heap.size,0,none⟩) 0 0) 0 (bX []) :=
  ⟨rfl,.inr ⟨w.heap.size,0,#[],rfl,by rw[HB.out];exact tg _,heap_alloc_new w _,tg _,by simp[maxLen],rfl,rfl⟩⟩
 have H0:=zA h0;clear h0
 go_loopw [3,4,5] (λpv mv ov wr=>∃(n:Nat) (s:St) (ps:List yT) (m o:Bool),mv=.bool m/\ov=.bool o/\wr.ownsRow B 235 4 pv ps.length (bX ps)/\Hid (vI wr R g cap P s)/\Hid (zB w.heap.size R w wr)/\Hid ((o=true->ps.length<=s.1/\P.length-s.1<=n/\tB P n m s ps=F)/\(o=false->(ps,s)=F))) (λ_ _ ov wr=>Zc P.length R ov wr)
 case atStart=>exact⟨P.length,s0,[],false,true,rfl,rfl,H0.out,zA (yL.alloc HC.out _),zA (zB.new (zB.refl _ _ _)),zA ⟨λ_=>⟨p8,by omega,HF.out.symm⟩,λh=>by cases h⟩⟩
 case round =>
  obtain⟨n,s,ps,m,o,rfl,rfl,a7,au,aw,HH⟩:=hrel;clear H0 HF
  cases o with
  | false =>
    have HE:=zA (HH.out.2 rfl);clear HH;go_wp2_with fail
    go_ret
    obtain rfl:=HE.out;exact⟨_,rfl,a7,au.out,by rw[HB.out];exact aw.out⟩
  | true =>
    obtain⟨bj,hn,hE⟩:=HH.out.1 rfl;have bf:=au.out.at';have HM:Hid (Zc P.length R (.bool true) wr=P.length-s.1):=au.out.meas;obtain⟨n,rfl⟩:∃k,n=k+1:=⟨n-1,by omega⟩;have bZ:=XV P m s;have aT:=zA (Ml wr R g cap P m s au.out);rw[tB]at hE;have HE:=zA hE;clear HH hE;have bg:B<=wr.heap.size:=by have h1:=aw.out.size;have h2:=HB.out;omega
    go_wp2_with fail
    refine aT.out.mono ?_;rintro e w1 ⟨rfl,hc1,aC⟩;have az:=uK a7 aC bE;have bR:Hid (zB w.heap.size R w w1):=aw.out.step aC;have aR:=zA hc1;have bm:B<=w1.heap.size:=tu bg aC.size;have av:=zA (zW az);have ba:∀x:yT,YJ x=[.bool x.minus,.bool x.ak,.int .i64 x.num,.string ⟨x.name.toArray⟩]:=λ_=>rfl;generalize hx:vV P m s=px at *;obtain⟨x,s1⟩:=px;simp only at bZ aR HE;obtain⟨xm,xs,xn,a8⟩:=x;simp only[fX];have HX:=zA hx;clear hx hc1 aC a7 aT au aw ba
    go_wp2_with (at_builtin;refine wpList_append_own _ rfl _ _ 179 rfl B 235 i0 _ 4 32 underlying179 ai hz0 hz1 bY rfl (by decide) _ _ _ rfl ((az.alloc _).alloc _) ⟨w1.heap.size+1,0,none⟩ 1 1 (YJ ⟨xm,xs,xn,a8⟩) rfl rfl ?c1 ?c2 ?c3 ?c4 ?c5 ?_)
    case c1=>exact tW _ _ _ _ rfl (by simp)
    case c2=>intro u hu;simp[YJ]at hu;rcases hu with rfl|rfl|rfl|rfl <;> rfl
    case c3=>unfold maxLen;omega
    case c4=>omega
    case c5=>simp;omega
    intro v' w2 bK a6 _
    have aP:vI w2 R g cap P s1:=yL.grown (yL.alloc (yL.alloc aR.out _) _) a6
     (λe=>by have h1:=(av.out R e).1;omega) (λe=>by have h1:=(av.out g e).1;omega)
    have aU:=zA aP;have bH:Hid (zB w.heap.size R w w2):=zB.grown (zB.new (zB.new bR.out)) a6 (by simp;have h1:=HB.out;omega) (λk hk=>by have h1:=(av.out k hk).1;have h2:=HB.out;omega);have aO:w2.ownsRow B 235 4 v' (ps++[yT.mk xm xs xn a8]).length (bX (ps++[yT.mk xm xs xn a8])):=(by rw[DL,tm];exact bK);have bl:B<=w2.heap.size:=(by have h1:=bH.out.size;have h2:=HB.out;omega);clear az bK a6 av aR bR aP;go_wp2_with fail
    refine(vG R g cap P _ s1 [45] aU.out).mono ?_;rintro e w3 ⟨rfl,aS,aH⟩;have ay:=uK aO aH bE;have bG:Hid (zB w.heap.size R w w3):=bH.out.step aH;have aQ:=zA aS;clear aO aH aS bH aU;cases hs1:(zD P [45] s1).1
    ·have aK:=HE.out
     simp only[hs1]at aK;have ax:=zA aK;clear aK HE;generalize hy:(zD P [45] s1).2=s2 at *;have bL:s1.1<=s2.1:=by rw[<-hy];exact xO P [45] s1
     clear hs1 hy;go_wp2_with fail
     refine(vG R g cap P _ s2 [43] aQ.out).mono ?_;rintro e w4 ⟨rfl,aj,aL⟩;have bJ:=uK ay aL bE;have bQ:Hid (zB w.heap.size R w w4):=bG.out.step aL;have aX:=zA aj;clear ay aL aj bG aQ;cases ah:(zD P [43] s2).1
     ·have aK:=ax.out
      simp only[ah]at aK;have ar:=zA aK;clear aK ax ah;go_wp2_with fail
      go_roundw
      case rel=>exact⟨0,_,_,false,false,rfl,rfl,bJ,aX,bQ,zA ⟨(λh=>by cases h),λ_=>ar.out⟩⟩
      case measure=>rw[HM.out];simp only[Zc];omega
     ·have aK:=ax.out
      simp only[ah]at aK;have ar:=zA aK;have aW:=qL ah;clear aK ax ah;have bb:=aX.out.at';go_wp2_with fail
      go_roundw
      case rel=>exact⟨n,_,_,false,true,rfl,rfl,bJ,aX,bQ,zA ⟨λ_=>⟨by rw[tm,aW];simp only[pb,ge];omega,by rw[aW];omega,ar.out⟩,λh=>by cases h⟩⟩
      case measure=>rw[HM.out,yL.meas aX.out,aW];omega
    ·have aK:=HE.out
     simp only[hs1]at aK;have ar:=zA aK;have aW:=qL hs1;clear aK HE hs1;have bc:=aQ.out.at';go_wp2_with fail
     go_roundw
     case rel=>exact⟨n,_,_,true,true,rfl,rfl,ay,aQ,bG,zA ⟨λ_=>⟨by rw[tm,aW];simp only[pb,ge];omega,by rw[aW];omega,ar.out⟩,λh=>by cases h⟩⟩
     case measure=>rw[HM.out,yL.meas aQ.out,aW];omega
end Go.Proofs.YtnbpdffdnphbeabGreatDoor
