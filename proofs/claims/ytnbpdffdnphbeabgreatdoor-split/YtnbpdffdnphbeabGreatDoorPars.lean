import Derived.Test.YtnbpdffdnphbeabGreatDoorAmongs
set_option maxHeartbeats 1000000
namespace Go.Proofs.YtnbpdffdnphbeabGreatDoor
open Go.RowKit
variable{k R:Nat}{w' w:World}
abbrev St:=Nat × Bool
variable{s:St}
def zD(P:List PT)(t:Bs)(s:St):Bool × St:=(tF P t s.1 s.2,(Us (tF P t s.1 s.2) s.1,s.2))
def zW(P:List PT)(t:Bs)(s:St):St:=(Us (tF P t s.1 s.2) s.1,!tF P t s.1 s.2)
def zI(P:List PT)(s:St):Bs × St:=((tk (qR P 2 s.1 s.2) (yK P s.1)).s,(Us (qR P 2 s.1 s.2) s.1,!qR P 2 s.1 s.2))
def yG(P:List PT)(s:St):Int × St:=((tk (qR P 3 s.1 s.2) (yK P s.1)).v,(Us (qR P 3 s.1 s.2) s.1,!qR P 3 s.1 s.2))
def isNum(P:List PT)(s:St):Bool:=(yK P s.1).k==3
structure xE where
 minus:Bool
 starred:Bool
 num:Int
 name:Bs
def qC(P:List PT)(m:Bool)(s:St):xE × St :=
 match isNum P s with
 | true =>
   match (zD P [42] (yG P s).2).1 with
   | true=>(⟨m,true,(yG P s).1,(zI P (zD P [42] (yG P s).2).2).1⟩,(zI P (zD P [42] (yG P s).2).2).2)
   | false=>(⟨m,false,(yG P s).1,[]⟩,(zD P [42] (yG P s).2).2)
 | false=>(⟨m,false,0,(zI P s).1⟩,(zI P s).2)
abbrev xX(w:World)(R g cap:Nat)(P:List PT)(s:St):Prop:=yE w R g cap P s.1 s.2
def vx(R g cap:Nat)(P:List PT):Prop:=∀(w:World) (s:St) (t:Bs),xX w R g cap P s ->
    Calls Tryz.prog 103 #[.pointer (some ⟨R,0,none⟩),.string ⟨t.toArray⟩] w fun e w'=>e=.returned (.bool (zD P t s).1)/\xX w' R g cap P (zD P t s).2/\zC w.heap.size R w w'
theorem xU(R g cap:Nat)(P:List PT):vx R g cap P:=fun w s t h=>Dc w R g cap P s.1 s.2 h t
def yg(R g cap:Nat)(P:List PT):Prop:=∀(w:World) (s:St) (t:Bs),xX w R g cap P s ->
    Calls Tryz.prog 107 #[.pointer (some ⟨R,0,none⟩),.string ⟨t.toArray⟩] w fun e w'=>e=.returned (.tuple #[])/\xX w' R g cap P (zW P t s)/\zC w.heap.size R w w'
theorem fE(R g cap:Nat)(P:List PT):yg R g cap P:=fun w s t h=>zCA w R g cap P s.1 s.2 h t
def qk(R g cap:Nat)(P:List PT):Prop:=∀(w:World) (s:St),xX w R g cap P s ->
    Calls Tryz.prog 149 #[.pointer (some ⟨R,0,none⟩)] w fun e w'=>e=.returned (.string ⟨(zI P s).1.toArray⟩)/\xX w' R g cap P (zI P s).2/\zC w.heap.size R w w'
theorem mZ(R g cap:Nat)(P:List PT):qk R g cap P:=fun w s h=>zDY w R g cap P s.1 s.2 h
def Bz(R g cap:Nat)(P:List PT):Prop:=∀(w:World) (s:St),xX w R g cap P s ->
    Calls Tryz.prog 150 #[.pointer (some ⟨R,0,none⟩)] w fun e w'=>e=.returned (.int .i64 (yG P s).1)/\xX w' R g cap P (yG P s).2/\zC w.heap.size R w w'
theorem oN(R g cap:Nat)(P:List PT):Bz R g cap P:=fun w s h=>FM w R g cap P s.1 s.2 h
def qe(R g cap:Nat)(P:List PT):Prop:=∀(w:World) (s:St) (kd:Int),xX w R g cap P s ->
    Calls Tryz.prog 71 #[.pointer (some ⟨R,0,none⟩),.int .i64 kd] w fun e w'=>e=.returned (.bool ((yK P s.1).k==kd))/\xX w' R g cap P s/\zC w.heap.size R w w'
theorem aS(R g cap:Nat)(P:List PT):qe R g cap P:=fun w s kd h=>zDU w R g cap P s.1 s.2 h kd
section
variable {w:World} {R g cap:Nat} {P:List PT} {s:St}
theorem yE.alloc(h:xX w R g cap P s)(o:Obj):xX (w.alloc o) R g cap P s :=
 h.keeps (lB h.rlt h.blk) ((zC.refl _ _ _).alloc (j1 _) _) h.at'
theorem yE.drew(h:xX w R g cap P s):xX w.drew R g cap P s:=h.keeps h.blk (zC.refl _ _ _).drew h.at'
theorem yE.setCell(h:xX w R g cap P s){p:Addr}(hr:p.block≠R)(hg:p.block≠g)(u:Value):xX (w.setCell p u) R g cap P s:=by
 refine⟨?_,?_,h.gR,by rw[zL];exact h.glt,h.at',h.cap1,h.cap2,h.many,h.endk⟩
 ·rw[lk _ _ _ _ (Ne.symm hr)];exact h.blk
 ·intro i hi
  have hb:∀o,(w.setCell p u).cell? ⟨g,o,none⟩=w.cell? ⟨g,o,none⟩:=fun o=>bm (w:=w) (lk _ _ _ _ (Ne.symm hg));rw[hb,hb,hb,hb];exact h.tok i hi
end
theorem yE.set{g cap:Nat}{P:List PT}{b o:Nat}{u:Value}(h:xX w R g cap P s)(hr:b≠R)(hg:b≠g):xX (w.setCell ⟨b,o,none⟩ u) R g cap P s:=yE.setCell h (p:=⟨b,o,none⟩) hr hg u
theorem zC.set{b o:Nat}{u:Value}(h:zC w.heap.size R w w')(hb:w.heap.size<=b):zC w.heap.size R w (w'.setCell ⟨b,o,none⟩ u):=zC.setCell h (p:=⟨b,o,none⟩) (.inl hb) u
theorem zC.new{x:Obj}(h:zC w.heap.size R w w'):zC w.heap.size R w (w'.alloc x):=zC.alloc h h.size x
theorem zC.step{W w1:World}(h:zC w.heap.size R w W)(k:zC W.heap.size R W w1):zC w.heap.size R w w1:=h.trans (k.mono h.size)
def oI(x:xE):Value:=.agg #[.bool x.minus,.bool x.starred,.int .i64 x.num,.string ⟨x.name.toArray⟩]
theorem zHX(w:World)(R g cap:Nat)(P:List PT)(m:Bool)(s:St)(h:xX w R g cap P s) :
 Calls Tryz.prog 181 #[.pointer (some ⟨R,0,none⟩),.bool m] w fun e w'=>e=.returned (oI (qC P m s).1)/\xX w' R g cap P (qC P m s).2/\zC w.heap.size R w w':=by
 have hR:=h.rlt;have hg:=h.glt;have n0:w.heap.size≠R:=by omega
 have n1:w.heap.size+1≠R:=by omega
 have m0:w.heap.size≠g:=by omega
 have m1:w.heap.size+1≠g:=by omega
 have HC0:=zA h;clear h;cases hb:isNum P s
 ·have HP:Hid (qC P m s=(⟨m,false,0,(zI P s).1⟩,(zI P s).2)):=by unfold Hid qC;rw[hb]
  have HN:=zA hb;clear hb
  go_enter Tryz.func181,Tryz.ntmps181
  go_wp2_with fail
  refine(aS R g cap P _ s 3 (yE.alloc (yE.alloc HC0.out _) _)).mono ?_;rintro e w1 ⟨rfl,hc1,hk1⟩;rw[show ((yK P s.1).k==3)=false from HN.out];have HC1:=zA hc1;have HT1:Hid (zC w.heap.size R w w1):=zC.step (zC.new (zC.new (zC.refl _ _ _))) hk1;have q1_0:=fun o=>hk1.cell (p:=⟨w.heap.size,o,none⟩) (by simp;try omega) n0;have r1_0:=fun o=>hk1.frozen (p:=⟨w.heap.size,o,none⟩) (by simp;try omega) n0;have z1_0:w.heap.size<w1.heap.size:=tj (by simp;try omega) hk1.size;have q1_1:=fun o=>hk1.cell (p:=⟨w.heap.size+1,o,none⟩) (by simp;try omega) n1;have r1_1:=fun o=>hk1.frozen (p:=⟨w.heap.size+1,o,none⟩) (by simp;try omega) n1;have z1_1:w.heap.size+1<w1.heap.size:=tj (by simp;try omega) hk1.size;clear hc1 hk1;go_wp2_with fail
  refine(mZ R g cap P _ s HC1.out).mono ?_;rintro e w2 ⟨rfl,hc2,hk2⟩;have HC2:=zA hc2;have HT2:Hid (zC w.heap.size R w w2):=zC.step HT1.out hk2;have q2_0:=fun o=>hk2.cell (p:=⟨w.heap.size,o,none⟩) (by first|exact z1_0|(simp only[zL];exact z1_0)) n0;have r2_0:=fun o=>hk2.frozen (p:=⟨w.heap.size,o,none⟩) (by first|exact z1_0|(simp only[zL];exact z1_0)) n0;have z2_0:w.heap.size<w2.heap.size:=tj (by first|exact z1_0|(simp only[zL];exact z1_0)) hk2.size;have q2_1:=fun o=>hk2.cell (p:=⟨w.heap.size+1,o,none⟩) (by first|exact z1_1|(simp only[zL];exact z1_1)) n1;have r2_1:=fun o=>hk2.frozen (p:=⟨w.heap.size+1,o,none⟩) (by first|exact z1_1|(simp only[zL];exact z1_1)) n1;have z2_1:w.heap.size+1<w2.heap.size:=tj (by first|exact z1_1|(simp only[zL];exact z1_1)) hk2.size;clear hc2 hk2;go_wp2_with fail
  refine pe (v:=oI ⟨m,false,0,(zI P s).1⟩) (by simp[results,Tryz.results181,go_sem,oI,q1_0,q2_0]) rfl ⟨by rw[HP.out],by rw[HP.out];exact(yE.set (yE.set (yE.set (yE.set (yE.set HC2.out n1 m1) n0 m0) n0 m0) n0 m0) n0 m0),(zC.set (zC.set (zC.set (zC.set (zC.set HT2.out (ml _ _)) (j1 _)) (j1 _)) (j1 _)) (j1 _))⟩
 ·have HN:=zA hb
  cases hs:(zD P [42] (yG P s).2).1
  ·have HP:Hid (qC P m s=(⟨m,false,(yG P s).1,[]⟩,(zD P [42] (yG P s).2).2)):=by unfold Hid qC;rw[hb];simp only[hs]
   have HS:=zA hs;clear hb hs
   go_enter Tryz.func181,Tryz.ntmps181
   go_wp2_with fail
   refine(aS R g cap P _ s 3 (yE.alloc (yE.alloc HC0.out _) _)).mono ?_;rintro e w1 ⟨rfl,hc1,hk1⟩;rw[show ((yK P s.1).k==3)=true from HN.out];have HC1:=zA hc1;have HT1:Hid (zC w.heap.size R w w1):=zC.step (zC.new (zC.new (zC.refl _ _ _))) hk1;have q1_0:=fun o=>hk1.cell (p:=⟨w.heap.size,o,none⟩) (by simp;try omega) n0;have r1_0:=fun o=>hk1.frozen (p:=⟨w.heap.size,o,none⟩) (by simp;try omega) n0;have z1_0:w.heap.size<w1.heap.size:=tj (by simp;try omega) hk1.size;have q1_1:=fun o=>hk1.cell (p:=⟨w.heap.size+1,o,none⟩) (by simp;try omega) n1;have r1_1:=fun o=>hk1.frozen (p:=⟨w.heap.size+1,o,none⟩) (by simp;try omega) n1;have z1_1:w.heap.size+1<w1.heap.size:=tj (by simp;try omega) hk1.size;clear hc1 hk1;go_wp2_with fail
   refine(oN R g cap P _ s HC1.out).mono ?_;rintro e w2 ⟨rfl,hc2,hk2⟩;have HC2:=zA hc2;have HT2:Hid (zC w.heap.size R w w2):=zC.step HT1.out hk2;have q2_0:=fun o=>hk2.cell (p:=⟨w.heap.size,o,none⟩) (by first|exact z1_0|(simp only[zL];exact z1_0)) n0;have r2_0:=fun o=>hk2.frozen (p:=⟨w.heap.size,o,none⟩) (by first|exact z1_0|(simp only[zL];exact z1_0)) n0;have z2_0:w.heap.size<w2.heap.size:=tj (by first|exact z1_0|(simp only[zL];exact z1_0)) hk2.size;have q2_1:=fun o=>hk2.cell (p:=⟨w.heap.size+1,o,none⟩) (by first|exact z1_1|(simp only[zL];exact z1_1)) n1;have r2_1:=fun o=>hk2.frozen (p:=⟨w.heap.size+1,o,none⟩) (by first|exact z1_1|(simp only[zL];exact z1_1)) n1;have z2_1:w.heap.size+1<w2.heap.size:=tj (by first|exact z1_1|(simp only[zL];exact z1_1)) hk2.size;clear hc2 hk2;go_wp2_with fail
   refine(xU R g cap P _ (yG P s).2 [42] (yE.set HC2.out n1 m1)).mono ?_;rintro e w3 ⟨rfl,hc3,hk3⟩;rw[HS.out];have HC3:=zA hc3;have HT3:Hid (zC w.heap.size R w w3):=zC.step (zC.set HT2.out (ml _ _)) hk3;have q3_0:=fun o=>hk3.cell (p:=⟨w.heap.size,o,none⟩) (by first|exact z2_0|(simp only[zL];exact z2_0)) n0;have r3_0:=fun o=>hk3.frozen (p:=⟨w.heap.size,o,none⟩) (by first|exact z2_0|(simp only[zL];exact z2_0)) n0;have z3_0:w.heap.size<w3.heap.size:=tj (by first|exact z2_0|(simp only[zL];exact z2_0)) hk3.size;have q3_1:=fun o=>hk3.cell (p:=⟨w.heap.size+1,o,none⟩) (by first|exact z2_1|(simp only[zL];exact z2_1)) n1;have r3_1:=fun o=>hk3.frozen (p:=⟨w.heap.size+1,o,none⟩) (by first|exact z2_1|(simp only[zL];exact z2_1)) n1;have z3_1:w.heap.size+1<w3.heap.size:=tj (by first|exact z2_1|(simp only[zL];exact z2_1)) hk3.size;clear hc3 hk3;go_wp2_with fail
   refine pe (v:=oI ⟨m,false,(yG P s).1,[]⟩) (by simp[results,Tryz.results181,go_sem,oI,q1_0,q2_0,q3_0]) rfl ⟨by rw[HP.out],by rw[HP.out];exact(yE.set (yE.set (yE.set (yE.set (yE.set HC3.out n1 m1) n0 m0) n0 m0) n0 m0) n0 m0),(zC.set (zC.set (zC.set (zC.set (zC.set HT3.out (ml _ _)) (j1 _)) (j1 _)) (j1 _)) (j1 _))⟩
  ·have HP:Hid (qC P m s=(⟨m,true,(yG P s).1,(zI P (zD P [42] (yG P s).2).2).1⟩,(zI P (zD P [42] (yG P s).2).2).2)):=by unfold Hid qC;rw[hb];simp only[hs]
   have HS:=zA hs;clear hb hs
   go_enter Tryz.func181,Tryz.ntmps181
   go_wp2_with fail
   refine(aS R g cap P _ s 3 (yE.alloc (yE.alloc HC0.out _) _)).mono ?_;rintro e w1 ⟨rfl,hc1,hk1⟩;rw[show ((yK P s.1).k==3)=true from HN.out];have HC1:=zA hc1;have HT1:Hid (zC w.heap.size R w w1):=zC.step (zC.new (zC.new (zC.refl _ _ _))) hk1;have q1_0:=fun o=>hk1.cell (p:=⟨w.heap.size,o,none⟩) (by simp;try omega) n0;have r1_0:=fun o=>hk1.frozen (p:=⟨w.heap.size,o,none⟩) (by simp;try omega) n0;have z1_0:w.heap.size<w1.heap.size:=tj (by simp;try omega) hk1.size;have q1_1:=fun o=>hk1.cell (p:=⟨w.heap.size+1,o,none⟩) (by simp;try omega) n1;have r1_1:=fun o=>hk1.frozen (p:=⟨w.heap.size+1,o,none⟩) (by simp;try omega) n1;have z1_1:w.heap.size+1<w1.heap.size:=tj (by simp;try omega) hk1.size;clear hc1 hk1;go_wp2_with fail
   refine(oN R g cap P _ s HC1.out).mono ?_;rintro e w2 ⟨rfl,hc2,hk2⟩;have HC2:=zA hc2;have HT2:Hid (zC w.heap.size R w w2):=zC.step HT1.out hk2;have q2_0:=fun o=>hk2.cell (p:=⟨w.heap.size,o,none⟩) (by first|exact z1_0|(simp only[zL];exact z1_0)) n0;have r2_0:=fun o=>hk2.frozen (p:=⟨w.heap.size,o,none⟩) (by first|exact z1_0|(simp only[zL];exact z1_0)) n0;have z2_0:w.heap.size<w2.heap.size:=tj (by first|exact z1_0|(simp only[zL];exact z1_0)) hk2.size;have q2_1:=fun o=>hk2.cell (p:=⟨w.heap.size+1,o,none⟩) (by first|exact z1_1|(simp only[zL];exact z1_1)) n1;have r2_1:=fun o=>hk2.frozen (p:=⟨w.heap.size+1,o,none⟩) (by first|exact z1_1|(simp only[zL];exact z1_1)) n1;have z2_1:w.heap.size+1<w2.heap.size:=tj (by first|exact z1_1|(simp only[zL];exact z1_1)) hk2.size;clear hc2 hk2;go_wp2_with fail
   refine(xU R g cap P _ (yG P s).2 [42] (yE.set HC2.out n1 m1)).mono ?_;rintro e w3 ⟨rfl,hc3,hk3⟩;rw[HS.out];have HC3:=zA hc3;have HT3:Hid (zC w.heap.size R w w3):=zC.step (zC.set HT2.out (ml _ _)) hk3;have q3_0:=fun o=>hk3.cell (p:=⟨w.heap.size,o,none⟩) (by first|exact z2_0|(simp only[zL];exact z2_0)) n0;have r3_0:=fun o=>hk3.frozen (p:=⟨w.heap.size,o,none⟩) (by first|exact z2_0|(simp only[zL];exact z2_0)) n0;have z3_0:w.heap.size<w3.heap.size:=tj (by first|exact z2_0|(simp only[zL];exact z2_0)) hk3.size;have q3_1:=fun o=>hk3.cell (p:=⟨w.heap.size+1,o,none⟩) (by first|exact z2_1|(simp only[zL];exact z2_1)) n1;have r3_1:=fun o=>hk3.frozen (p:=⟨w.heap.size+1,o,none⟩) (by first|exact z2_1|(simp only[zL];exact z2_1)) n1;have z3_1:w.heap.size+1<w3.heap.size:=tj (by first|exact z2_1|(simp only[zL];exact z2_1)) hk3.size;clear hc3 hk3;go_wp2_with fail
   refine(mZ R g cap P _ (zD P [42] (yG P s).2).2 (yE.set HC3.out n1 m1)).mono ?_;rintro e w4 ⟨rfl,hc4,hk4⟩;have HC4:=zA hc4;have HT4:Hid (zC w.heap.size R w w4):=zC.step (zC.set HT3.out (ml _ _)) hk4;have q4_0:=fun o=>hk4.cell (p:=⟨w.heap.size,o,none⟩) (by first|exact z3_0|(simp only[zL];exact z3_0)) n0;have r4_0:=fun o=>hk4.frozen (p:=⟨w.heap.size,o,none⟩) (by first|exact z3_0|(simp only[zL];exact z3_0)) n0;have z4_0:w.heap.size<w4.heap.size:=tj (by first|exact z3_0|(simp only[zL];exact z3_0)) hk4.size;have q4_1:=fun o=>hk4.cell (p:=⟨w.heap.size+1,o,none⟩) (by first|exact z3_1|(simp only[zL];exact z3_1)) n1;have r4_1:=fun o=>hk4.frozen (p:=⟨w.heap.size+1,o,none⟩) (by first|exact z3_1|(simp only[zL];exact z3_1)) n1;have z4_1:w.heap.size+1<w4.heap.size:=tj (by first|exact z3_1|(simp only[zL];exact z3_1)) hk4.size;clear hc4 hk4;go_wp2_with fail
   refine pe (v:=oI ⟨m,true,(yG P s).1,(zI P (zD P [42] (yG P s).2).2).1⟩) (by simp[results,Tryz.results181,go_sem,oI,q1_0,q2_0,q3_0,q4_0]) rfl ⟨by rw[HP.out],by rw[HP.out];exact(yE.set (yE.set (yE.set (yE.set (yE.set HC4.out n1 m1) n0 m0) n0 m0) n0 m0) n0 m0),(zC.set (zC.set (zC.set (zC.set (zC.set HT4.out (ml _ _)) (j1 _)) (j1 _)) (j1 _)) (j1 _))⟩
def lS(P:List PT):Nat->Bool->St->List xE->List xE × St
 | 0,_,s,ps=>(ps,s)
 | n+1,m,s,ps =>
   match (zD P [45] (qC P m s).2).1 with
   | true=>lS P n true (zD P [45] (qC P m s).2).2 (ps++[(qC P m s).1])
   | false =>
     match (zD P [43] (zD P [45] (qC P m s).2).2).1 with
     | true=>lS P n false (zD P [43] (zD P [45] (qC P m s).2).2).2 (ps++[(qC P m s).1])
     | false=>(ps++[(qC P m s).1],(zD P [43] (zD P [45] (qC P m s).2).2).2)
def jY(P:List PT)(s:St):List xE × St:=lS P P.length false s []
def ZO(x:xE):List Value:=[.bool x.minus,.bool x.starred,.int .i64 x.num,.string ⟨x.name.toArray⟩]
def lV(ps:List xE):List Value:=ps.flatMap ZO
theorem Cd(ps:List xE)(x:xE):lV (ps++[x])=lV ps++ZO x:=by simp[lV]
theorem dH(b:Bool)(a:Nat):a<=Us b a:=by cases b <;> simp[Us]
theorem YT(P:List PT)(m:Bool)(s:St):s.1<=(qC P m s).2.1:=by
 have h1:=dH (qR P 3 s.1 s.2) s.1;have h2:=dH (qR P 2 s.1 s.2) s.1;unfold qC;split
 ·have h3:=dH (tF P [42] (yG P s).2.1 (yG P s).2.2) (yG P s).2.1
  split
  ·have h4:=dH (qR P 2 (zD P [42] (yG P s).2).2.1 (zD P [42] (yG P s).2).2.2) (zD P [42] (yG P s).2).2.1
   simp only[zI,zD,yG]at h3 h4 ⊢;omega
  ·simp only[zD,yG]at h3 ⊢;omega
 ·exact h2
theorem kG{P:List PT}{t:Bs}(h:(zD P t s).1=true):(zD P t s).2.1=s.1+1:=by
 simp only[zD]at h ⊢;rw[h];rfl
theorem xV(P:List PT)(t:Bs)(s:St):s.1<=(zD P t s).2.1:=dH _ _
theorem uB{B:Nat}{e:TypeId}{size:Nat}{v:Value}{n:Nat}{xs:List Value}(h:w.ownsRow B e size v n xs)(hb:zC w.heap.size R w w')(hR:R<B):w'.ownsRow B e size v n xs:=by
 refine⟨h.1,?_⟩;rcases h.2 with h1|⟨g,cap,yK,h1,h2,h3,r⟩
 ·exact .inl h1
 ·refine .inr ⟨g,cap,yK,h1,h2,?_,r⟩
  have hg:g<w.heap.size:=by
   rcases md g w.heap.size with h|h
   ·exact h
   ·rw[mc h]at h3;cases h3
  rw[hb.block g hg (by omega)];exact h3
theorem zK{a:Addr}{v:Value}(h:k<w.heap.size):k<(w.setCell a v).heap.size:=by rw[zL];exact h
theorem nE{o:Obj}(h:k<w.heap.size):k<(w.alloc o).heap.size:=by simp;omega
theorem zV(w:World)(o:Obj):w.heap.size<(w.alloc o).heap.size:=by simp
theorem iL(h:k<w.heap.size):k<w.drew.heap.size:=h
theorem jm:(Tryz.prog.info? 235).map (fun i=>(i.zero,i.size,i.bytes))=some (some (.agg #[.bool false,.bool false,.int .i64 0,.string ⟨#[]⟩]),4,32):=by kernel_rfl
theorem yE.grown{g cap:Nat}{P:List PT}{row:Option Nat}(h:xX w R g cap P s)(hg:w.grownBy w' row)(h1:row≠some R)(h2:row≠some g):xX w' R g cap P s:=by
 refine⟨?_,?_,h.gR,tj h.glt hg.size,h.at',h.cap1,h.cap2,h.many,h.endk⟩
 ·rw[hg.block R h.rlt (Ne.symm h1)];exact h.blk
 ·intro i hi
  have hb:∀o,w'.cell? ⟨g,o,none⟩=w.cell? ⟨g,o,none⟩:=fun o=>bm (w:=w) (hg.block g h.glt (Ne.symm h2));rw[hb,hb,hb,hb];exact h.tok i hi
theorem zC.grown{B:Nat}{a:World}{row:Option Nat}(h:zC B R a w)(hg:w.grownBy w' row)(hB:B<=w.heap.size)(hr:∀k,row=some k->B<=k):zC B R a w' :=
 h.trans ⟨hg.os,hg.tape,hg.output,hg.size,fun k hk _=>hg.block k (by omega) (fun e=>by have:=hr k e.symm;omega)⟩
def uo(w:World)(R:Nat):Nat:=match w.cell? ⟨R,1,none⟩ with|some v=>(intOf v).toNat|none=>0
def eQ(L R:Nat)(ov:Value)(w:World):Nat:=match ov with | .bool true=>L-uo w R|_=>0
theorem yE.rdAt{g cap:Nat}{P:List PT}(h:xX w R g cap P s):uo w R=s.1:=by
 unfold uo;rw[h.cells.2.1];simp[intOf]
theorem yE.meas{g cap:Nat}{P:List PT}(h:xX w R g cap P s):eQ P.length R (.bool true) w=P.length-s.1:=by
 simp only[eQ];rw[yE.rdAt h]
theorem zJW(w:World)(R g cap:Nat)(P:List PT)(s0:St)(h:xX w R g cap P s0) :
 Calls Tryz.prog 151 #[.pointer (some ⟨R,0,none⟩)] w fun e w'=>∃v,e=.returned v/\w'.ownsRow w.heap.size 235 4 v (jY P s0).1.length (lV (jY P s0).1)/\xX w' R g cap P (jY P s0).2/\zC w.heap.size R w w':=by
 obtain⟨i0,hi0,hz0,hz1,hz2⟩:=info_parts jm;have hR:=h.rlt;have hg:=h.glt;have hmany:=h.many;have hat:=h.at';have HC:=zA h;obtain⟨B,hB⟩:∃B,B=w.heap.size:=⟨_,rfl⟩;have HB:Hid (B=w.heap.size):=hB;rw[<-hB];have hRB:R<B:=by omega
 have hgB:g<B:=by omega
 have HF:Hid (jY P s0=lS P P.length false s0 []):=rfl;generalize jY P s0=F at *;clear h hB hR hg
 go_enter Tryz.func151,Tryz.ntmps151
 go_wp2_with fail
 have h0:(w.alloc (.cells #[] 235)).ownsRow B 235 4 (.slice (some ⟨w.heap.size,0,none⟩) 0 0) 0 (lV []) :=
  ⟨rfl,.inr ⟨w.heap.size,0,#[],rfl,by rw[HB.out];exact j1 _,heap_alloc_new w _,j1 _,by simp[maxLen],rfl,rfl⟩⟩
 have H0:=zA h0;clear h0
 go_loopw [3,4,5] (fun pv mv ov wr=>∃(n:Nat) (s:St) (ps:List xE) (m o:Bool),mv=.bool m/\ov=.bool o/\wr.ownsRow B 235 4 pv ps.length (lV ps)/\Hid (xX wr R g cap P s)/\Hid (zC w.heap.size R w wr)/\Hid ((o=true->ps.length<=s.1/\P.length-s.1<=n/\lS P n m s ps=F)/\(o=false->(ps,s)=F))) (fun _ _ ov wr=>eQ P.length R ov wr)
 case atStart=>exact⟨P.length,s0,[],false,true,rfl,rfl,H0.out,zA (yE.alloc HC.out _),zA (zC.new (zC.refl _ _ _)),zA ⟨fun _=>⟨p7 _,by omega,HF.out.symm⟩,fun h=>by cases h⟩⟩
 case round =>
  obtain⟨n,s,ps,m,o,rfl,rfl,zL1,HCr,HKr,HH⟩:=hrel;clear H0 HF
  cases o with
  | false =>
    have HE:=zA (HH.out.2 rfl);clear HH;go_wp2_with fail
    go_ret
    obtain rfl:=HE.out;exact⟨_,rfl,zL1,HCr.out,by rw[HB.out];exact HKr.out⟩
  | true =>
    obtain⟨hps,hn,hE⟩:=HH.out.1 rfl;have hat:=HCr.out.at';have HM:Hid (eQ P.length R (.bool true) wr=P.length-s.1):=HCr.out.meas;obtain⟨n,rfl⟩:∃k,n=k+1:=⟨n-1,by omega⟩;have hpm:=YT P m s;have HPart:=zA (zHX wr R g cap P m s HCr.out);rw[lS]at hE;have HE:=zA hE;clear HH hE;have hBr:B<=wr.heap.size:=by have h1:=HKr.out.size;have h2:=HB.out;omega
    go_wp2_with fail
    refine HPart.out.mono ?_;rintro e w1 ⟨rfl,hc1,hk1⟩;have zL5:=uB zL1 hk1 hRB;have HK1:Hid (zC w.heap.size R w w1):=HKr.out.step hk1;have HC1:=zA hc1;have hB1:B<=w1.heap.size:=p8 hBr hk1.size;have HOB:=zA (zZ zL5);have hpc:∀x:xE,ZO x=[.bool x.minus,.bool x.starred,.int .i64 x.num,.string ⟨x.name.toArray⟩]:=fun _=>rfl;generalize hx:qC P m s=px at *;obtain⟨x,s1⟩:=px;simp only at hpm HC1 HE;obtain⟨xm,xs,xn,xnm⟩:=x;simp only[oI];have HX:=zA hx;clear hx hc1 hk1 zL1 HPart HCr HKr hpc
    go_wp2_with (at_builtin;refine wpList_append_own _ rfl _ _ 179 rfl B 235 i0 _ 4 32 Tryz.underlying179 hi0 hz0 hz1 hz2 rfl (by decide) _ _ _ rfl ((zL5.alloc _).alloc _) ⟨w1.heap.size+1,0,none⟩ 1 1 (ZO ⟨xm,xs,xn,xnm⟩) rfl rfl ?c1 ?c2 ?c3 ?c4 ?c5 ?_)
    case c1=>exact qT _ _ _ _ rfl (by simp)
    case c2=>intro u hu;simp[ZO]at hu;rcases hu with rfl|rfl|rfl|rfl <;> rfl
    case c3=>unfold maxLen;omega
    case c4=>omega
    case c5=>simp;omega
    intro v' w2 zLG zL2 _
    have hc2:xX w2 R g cap P s1:=yE.grown (yE.alloc (yE.alloc HC1.out _) _) zL2
     (fun e=>by have h1:=(HOB.out R e).1;omega) (fun e=>by have h1:=(HOB.out g e).1;omega)
    have HC2:=zA hc2;have HK2:Hid (zC w.heap.size R w w2):=zC.grown (zC.new (zC.new HK1.out)) zL2 (by simp;have h1:=HB.out;omega) (fun k hk=>by have h1:=(HOB.out k hk).1;have h2:=HB.out;omega);have hown2':w2.ownsRow B 235 4 v' (ps++[xE.mk xm xs xn xnm]).length (lV (ps++[xE.mk xm xs xn xnm])):=by rw[Cd,tm];exact zLG
    have hB2:B<=w2.heap.size:=by have h1:=HK2.out.size;have h2:=HB.out;omega
    clear zL5 zLG zL2 HOB HC1 HK1 hc2;go_wp2_with fail
    refine(xU R g cap P _ s1 [45] HC2.out).mono ?_;rintro e w3 ⟨rfl,hc3,hk3⟩;have zLK:=uB hown2' hk3 hRB;have HK3:Hid (zC w.heap.size R w w3):=HK2.out.step hk3;have HC3:=zA hc3;clear hown2' hk3 hc3 HK2 HC2;cases hs1:(zD P [45] s1).1
    ·have hE2:=HE.out
     simp only[hs1]at hE2;have HE2:=zA hE2;clear hE2 HE;generalize hy:(zD P [45] s1).2=s2 at *;have hmono:s1.1<=s2.1:=by rw[<-hy];exact xV P [45] s1
     clear hs1 hy;go_wp2_with fail
     refine(xU R g cap P _ s2 [43] HC3.out).mono ?_;rintro e w4 ⟨rfl,hc4,hk4⟩;have hown4:=uB zLK hk4 hRB;have HK4:Hid (zC w.heap.size R w w4):=HK3.out.step hk4;have HC4:=zA hc4;clear zLK hk4 hc4 HK3 HC3;cases hs2:(zD P [43] s2).1
     ·have hE2:=HE2.out
      simp only[hs2]at hE2;have HE3:=zA hE2;clear hE2 HE2 hs2;go_wp2_with fail
      go_roundw
      case rel=>exact⟨0,_,_,false,false,rfl,rfl,hown4,HC4,HK4,zA ⟨(fun h=>by cases h),fun _=>HE3.out⟩⟩
      case measure=>rw[HM.out];simp only[eQ];omega
     ·have hE2:=HE2.out
      simp only[hs2]at hE2;have HE3:=zA hE2;have zLO:=kG hs2;clear hE2 HE2 hs2;have hat4:=HC4.out.at';go_wp2_with fail
      go_roundw
      case rel=>exact⟨n,_,_,false,true,rfl,rfl,hown4,HC4,HK4,zA ⟨fun _=>⟨by rw[tm,zLO];simp only[pf,List.length_nil];omega,by rw[zLO];omega,HE3.out⟩,fun h=>by cases h⟩⟩
      case measure=>rw[HM.out,yE.meas HC4.out,zLO];omega
    ·have hE2:=HE.out
     simp only[hs1]at hE2;have HE3:=zA hE2;have zLO:=kG hs1;clear hE2 HE hs1;have hat3:=HC3.out.at';go_wp2_with fail
     go_roundw
     case rel=>exact⟨n,_,_,true,true,rfl,rfl,zLK,HC3,HK3,zA ⟨fun _=>⟨by rw[tm,zLO];simp only[pf,List.length_nil];omega,by rw[zLO];omega,HE3.out⟩,fun h=>by cases h⟩⟩
     case measure=>rw[HM.out,yE.meas HC3.out,zLO];omega
end Go.Proofs.YtnbpdffdnphbeabGreatDoor
