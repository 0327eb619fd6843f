import Derived.Test.YtnbpdffdnphbeaaGreatDoorCtx
set_option maxHeartbeats 1000000
namespace Go.Proofs.YtnbpdffdnphbeaaGreatDoor
open Go.RowKit
variable{R k:Nat}{w' w:World}
abbrev St:=Nat × Bool
variable{s:St}
def zC(P:List PT)(t:Bs)(s:St):Bool × St:=(bJ P t s.1 s.2,(JK (bJ P t s.1 s.2) s.1,s.2))
def zU(P:List PT)(t:Bs)(s:St):St:=(JK (bJ P t s.1 s.2) s.1,!bJ P t s.1 s.2)
def zI(P:List PT)(s:St):Bs × St:=((tk (kP P 2 s.1 s.2) (yW P s.1)).s,(JK (kP P 2 s.1 s.2) s.1,!kP P 2 s.1 s.2))
def yM(P:List PT)(s:St):Int × St:=((tk (kP P 3 s.1 s.2) (yW P s.1)).v,(JK (kP P 3 s.1 s.2) s.1,!kP P 3 s.1 s.2))
def pA(P:List PT)(s:St):Bool:=(yW P s.1).k==3
structure yZ where
 minus:Bool
 starred:Bool
 num:Int
 name:Bs
def qL(P:List PT)(m:Bool)(s:St):yZ × St :=
 match pA P s with
 | true =>
   match (zC P [42] (yM P s).2).1 with
   | true=>(⟨m,true,(yM P s).1,(zI P (zC P [42] (yM P s).2).2).1⟩,(zI P (zC P [42] (yM P s).2).2).2)
   | false=>(⟨m,false,(yM P s).1,[]⟩,(zC P [42] (yM P s).2).2)
 | false=>(⟨m,false,0,(zI P s).1⟩,(zI P s).2)
abbrev vK(w:World)(R g cap:Nat)(P:List PT)(s:St):Prop:=yO w R g cap P s.1 s.2
def ue(R g cap:Nat)(P:List PT):Prop:=∀(w:World) (s:St) (t:Bs),vK w R g cap P s ->
    Calls Tryz.prog 148 #[.pointer (some ⟨R,0,none⟩),.string ⟨t.toArray⟩] w fun e w'=>e=.returned (.bool (zC P t s).1)/\vK w' R g cap P (zC P t s).2/\zB w.heap.size R w w'
theorem vJ(R g cap:Nat)(P:List PT):ue R g cap P:=fun w s t h=>Du w R g cap P s.1 s.2 h t
def vf(R g cap:Nat)(P:List PT):Prop:=∀(w:World) (s:St) (t:Bs),vK w R g cap P s ->
    Calls Tryz.prog 152 #[.pointer (some ⟨R,0,none⟩),.string ⟨t.toArray⟩] w fun e w'=>e=.returned (.tuple #[])/\vK w' R g cap P (zU P t s)/\zB w.heap.size R w w'
theorem gH(R g cap:Nat)(P:List PT):vf R g cap P:=fun w s t h=>zBQ w R g cap P s.1 s.2 h t
def qy(R g cap:Nat)(P:List PT):Prop:=∀(w:World) (s:St),vK w R g cap P s ->
    Calls Tryz.prog 211 #[.pointer (some ⟨R,0,none⟩)] w fun e w'=>e=.returned (.string ⟨(zI P s).1.toArray⟩)/\vK w' R g cap P (zI P s).2/\zB w.heap.size R w w'
theorem bS(R g cap:Nat)(P:List PT):qy R g cap P:=fun w s h=>zCV w R g cap P s.1 s.2 h
def Ch(R g cap:Nat)(P:List PT):Prop:=∀(w:World) (s:St),vK w R g cap P s ->
    Calls Tryz.prog 212 #[.pointer (some ⟨R,0,none⟩)] w fun e w'=>e=.returned (.int .i64 (yM P s).1)/\vK w' R g cap P (yM P s).2/\zB w.heap.size R w w'
theorem rZ(R g cap:Nat)(P:List PT):Ch R g cap P:=fun w s h=>Gm w R g cap P s.1 s.2 h
def qv(R g cap:Nat)(P:List PT):Prop:=∀(w:World) (s:St) (kd:Int),vK w R g cap P s ->
    Calls Tryz.prog 101 #[.pointer (some ⟨R,0,none⟩),.int .i64 kd] w fun e w'=>e=.returned (.bool ((yW P s.1).k==kd))/\vK w' R g cap P s/\zB w.heap.size R w w'
theorem iF(R g cap:Nat)(P:List PT):qv R g cap P:=fun w s kd h=>zCS w R g cap P s.1 s.2 h kd
section
variable {w:World} {R g cap:Nat} {P:List PT} {s:St}
theorem yO.alloc(h:vK w R g cap P s)(o:Obj):vK (w.alloc o) R g cap P s :=
 h.keeps (bU h.rlt h.blk) ((zB.refl _ _ _).alloc (t9 _) _) h.at'
theorem yO.drew(h:vK w R g cap P s):vK w.drew R g cap P s:=h.keeps h.blk (zB.refl _ _ _).drew h.at'
theorem yO.setCell(h:vK w R g cap P s){p:Addr}(hr:p.block≠R)(hg:p.block≠g)(u:Value):vK (w.setCell p u) R g cap P s:=by
 refine⟨?_,?_,h.gR,by rw[zL];exact h.glt,h.at',h.cap1,h.cap2,h.many,h.endk⟩
 ·rw[lq _ _ _ _ (Ne.symm hr)];exact h.blk
 ·intro i hi
  have hb:∀o,(w.setCell p u).cell? ⟨g,o,none⟩=w.cell? ⟨g,o,none⟩:=fun o=>l7 (w:=w) (lq _ _ _ _ (Ne.symm hg));rw[hb,hb,hb,hb];exact h.tok i hi
end
theorem yO.set{g cap:Nat}{P:List PT}{b o:Nat}{u:Value}(h:vK w R g cap P s)(hr:b≠R)(hg:b≠g):vK (w.setCell ⟨b,o,none⟩ u) R g cap P s:=yO.setCell h (p:=⟨b,o,none⟩) hr hg u
theorem zB.set{b o:Nat}{u:Value}(h:zB w.heap.size R w w')(hb:w.heap.size<=b):zB w.heap.size R w (w'.setCell ⟨b,o,none⟩ u):=zB.setCell h (p:=⟨b,o,none⟩) (.inl hb) u
theorem zB.new{x:Obj}(h:zB w.heap.size R w w'):zB w.heap.size R w (w'.alloc x):=zB.alloc h h.size x
theorem zB.step{W w1:World}(h:zB w.heap.size R w W)(k:zB W.heap.size R W w1):zB w.heap.size R w w1:=h.trans (k.mono h.size)
def rR(x:yZ):Value:=.agg #[.bool x.minus,.bool x.starred,.int .i64 x.num,.string ⟨x.name.toArray⟩]
theorem zFU(w:World)(R g cap:Nat)(P:List PT)(m:Bool)(s:St)(h:vK w R g cap P s) :
 Calls Tryz.prog 247 #[.pointer (some ⟨R,0,none⟩),.bool m] w fun e w'=>e=.returned (rR (qL P m s).1)/\vK w' R g cap P (qL P m s).2/\zB w.heap.size R w w':=by
 have hR:=h.rlt;have hg:=h.glt;have n0:w.heap.size≠R:=by omega
 have n1:w.heap.size+1≠R:=by omega
 have m0:w.heap.size≠g:=by omega
 have m1:w.heap.size+1≠g:=by omega
 have HC0:=zA h;clear h;cases hb:pA P s
 ·have HP:Hid (qL P m s=(⟨m,false,0,(zI P s).1⟩,(zI P s).2)):=by unfold Hid qL;rw[hb]
  have HN:=zA hb;clear hb
  go_enter Tryz.func247,Tryz.ntmps247
  go_wp2_with fail
  refine(iF R g cap P _ s 3 (yO.alloc (yO.alloc HC0.out _) _)).mono ?_;rintro e w1 ⟨rfl,hc1,hk1⟩;rw[show ((yW P s.1).k==3)=false from HN.out];have HC1:=zA hc1;have HT1:Hid (zB w.heap.size R w w1):=zB.step (zB.new (zB.new (zB.refl _ _ _))) hk1;have q1_0:=fun o=>hk1.cell (p:=⟨w.heap.size,o,none⟩) (by simp;try omega) n0;have r1_0:=fun o=>hk1.frozen (p:=⟨w.heap.size,o,none⟩) (by simp;try omega) n0;have z1_0:w.heap.size<w1.heap.size:=ti (by simp;try omega) hk1.size;have q1_1:=fun o=>hk1.cell (p:=⟨w.heap.size+1,o,none⟩) (by simp;try omega) n1;have r1_1:=fun o=>hk1.frozen (p:=⟨w.heap.size+1,o,none⟩) (by simp;try omega) n1;have z1_1:w.heap.size+1<w1.heap.size:=ti (by simp;try omega) hk1.size;clear hc1 hk1;go_wp2_with fail
  refine(bS R g cap P _ s HC1.out).mono ?_;rintro e w2 ⟨rfl,hc2,hk2⟩;have HC2:=zA hc2;have HT2:Hid (zB w.heap.size R w w2):=zB.step HT1.out hk2;have q2_0:=fun o=>hk2.cell (p:=⟨w.heap.size,o,none⟩) (by first|exact z1_0|(simp only[zL];exact z1_0)) n0;have r2_0:=fun o=>hk2.frozen (p:=⟨w.heap.size,o,none⟩) (by first|exact z1_0|(simp only[zL];exact z1_0)) n0;have z2_0:w.heap.size<w2.heap.size:=ti (by first|exact z1_0|(simp only[zL];exact z1_0)) hk2.size;have q2_1:=fun o=>hk2.cell (p:=⟨w.heap.size+1,o,none⟩) (by first|exact z1_1|(simp only[zL];exact z1_1)) n1;have r2_1:=fun o=>hk2.frozen (p:=⟨w.heap.size+1,o,none⟩) (by first|exact z1_1|(simp only[zL];exact z1_1)) n1;have z2_1:w.heap.size+1<w2.heap.size:=ti (by first|exact z1_1|(simp only[zL];exact z1_1)) hk2.size;clear hc2 hk2;go_wp2_with fail
  refine ph (v:=rR ⟨m,false,0,(zI P s).1⟩) (by simp[results,Tryz.results247,go_sem,rR,q1_0,q2_0]) rfl ⟨by rw[HP.out],by rw[HP.out];exact(yO.set (yO.set (yO.set (yO.set (yO.set HC2.out n1 m1) n0 m0) n0 m0) n0 m0) n0 m0),(zB.set (zB.set (zB.set (zB.set (zB.set HT2.out (mc _ _)) (t9 _)) (t9 _)) (t9 _)) (t9 _))⟩
 ·have HN:=zA hb
  cases hs:(zC P [42] (yM P s).2).1
  ·have HP:Hid (qL P m s=(⟨m,false,(yM P s).1,[]⟩,(zC P [42] (yM P s).2).2)):=by unfold Hid qL;rw[hb];simp only[hs]
   have HS:=zA hs;clear hb hs
   go_enter Tryz.func247,Tryz.ntmps247
   go_wp2_with fail
   refine(iF R g cap P _ s 3 (yO.alloc (yO.alloc HC0.out _) _)).mono ?_;rintro e w1 ⟨rfl,hc1,hk1⟩;rw[show ((yW P s.1).k==3)=true from HN.out];have HC1:=zA hc1;have HT1:Hid (zB w.heap.size R w w1):=zB.step (zB.new (zB.new (zB.refl _ _ _))) hk1;have q1_0:=fun o=>hk1.cell (p:=⟨w.heap.size,o,none⟩) (by simp;try omega) n0;have r1_0:=fun o=>hk1.frozen (p:=⟨w.heap.size,o,none⟩) (by simp;try omega) n0;have z1_0:w.heap.size<w1.heap.size:=ti (by simp;try omega) hk1.size;have q1_1:=fun o=>hk1.cell (p:=⟨w.heap.size+1,o,none⟩) (by simp;try omega) n1;have r1_1:=fun o=>hk1.frozen (p:=⟨w.heap.size+1,o,none⟩) (by simp;try omega) n1;have z1_1:w.heap.size+1<w1.heap.size:=ti (by simp;try omega) hk1.size;clear hc1 hk1;go_wp2_with fail
   refine(rZ R g cap P _ s HC1.out).mono ?_;rintro e w2 ⟨rfl,hc2,hk2⟩;have HC2:=zA hc2;have HT2:Hid (zB w.heap.size R w w2):=zB.step HT1.out hk2;have q2_0:=fun o=>hk2.cell (p:=⟨w.heap.size,o,none⟩) (by first|exact z1_0|(simp only[zL];exact z1_0)) n0;have r2_0:=fun o=>hk2.frozen (p:=⟨w.heap.size,o,none⟩) (by first|exact z1_0|(simp only[zL];exact z1_0)) n0;have z2_0:w.heap.size<w2.heap.size:=ti (by first|exact z1_0|(simp only[zL];exact z1_0)) hk2.size;have q2_1:=fun o=>hk2.cell (p:=⟨w.heap.size+1,o,none⟩) (by first|exact z1_1|(simp only[zL];exact z1_1)) n1;have r2_1:=fun o=>hk2.frozen (p:=⟨w.heap.size+1,o,none⟩) (by first|exact z1_1|(simp only[zL];exact z1_1)) n1;have z2_1:w.heap.size+1<w2.heap.size:=ti (by first|exact z1_1|(simp only[zL];exact z1_1)) hk2.size;clear hc2 hk2;go_wp2_with fail
   refine(vJ R g cap P _ (yM P s).2 [42] (yO.set HC2.out n1 m1)).mono ?_;rintro e w3 ⟨rfl,hc3,hk3⟩;rw[HS.out];have HC3:=zA hc3;have HT3:Hid (zB w.heap.size R w w3):=zB.step (zB.set HT2.out (mc _ _)) hk3;have q3_0:=fun o=>hk3.cell (p:=⟨w.heap.size,o,none⟩) (by first|exact z2_0|(simp only[zL];exact z2_0)) n0;have r3_0:=fun o=>hk3.frozen (p:=⟨w.heap.size,o,none⟩) (by first|exact z2_0|(simp only[zL];exact z2_0)) n0;have z3_0:w.heap.size<w3.heap.size:=ti (by first|exact z2_0|(simp only[zL];exact z2_0)) hk3.size;have q3_1:=fun o=>hk3.cell (p:=⟨w.heap.size+1,o,none⟩) (by first|exact z2_1|(simp only[zL];exact z2_1)) n1;have r3_1:=fun o=>hk3.frozen (p:=⟨w.heap.size+1,o,none⟩) (by first|exact z2_1|(simp only[zL];exact z2_1)) n1;have z3_1:w.heap.size+1<w3.heap.size:=ti (by first|exact z2_1|(simp only[zL];exact z2_1)) hk3.size;clear hc3 hk3;go_wp2_with fail
   refine ph (v:=rR ⟨m,false,(yM P s).1,[]⟩) (by simp[results,Tryz.results247,go_sem,rR,q1_0,q2_0,q3_0]) rfl ⟨by rw[HP.out],by rw[HP.out];exact(yO.set (yO.set (yO.set (yO.set (yO.set HC3.out n1 m1) n0 m0) n0 m0) n0 m0) n0 m0),(zB.set (zB.set (zB.set (zB.set (zB.set HT3.out (mc _ _)) (t9 _)) (t9 _)) (t9 _)) (t9 _))⟩
  ·have HP:Hid (qL P m s=(⟨m,true,(yM P s).1,(zI P (zC P [42] (yM P s).2).2).1⟩,(zI P (zC P [42] (yM P s).2).2).2)):=by unfold Hid qL;rw[hb];simp only[hs]
   have HS:=zA hs;clear hb hs
   go_enter Tryz.func247,Tryz.ntmps247
   go_wp2_with fail
   refine(iF R g cap P _ s 3 (yO.alloc (yO.alloc HC0.out _) _)).mono ?_;rintro e w1 ⟨rfl,hc1,hk1⟩;rw[show ((yW P s.1).k==3)=true from HN.out];have HC1:=zA hc1;have HT1:Hid (zB w.heap.size R w w1):=zB.step (zB.new (zB.new (zB.refl _ _ _))) hk1;have q1_0:=fun o=>hk1.cell (p:=⟨w.heap.size,o,none⟩) (by simp;try omega) n0;have r1_0:=fun o=>hk1.frozen (p:=⟨w.heap.size,o,none⟩) (by simp;try omega) n0;have z1_0:w.heap.size<w1.heap.size:=ti (by simp;try omega) hk1.size;have q1_1:=fun o=>hk1.cell (p:=⟨w.heap.size+1,o,none⟩) (by simp;try omega) n1;have r1_1:=fun o=>hk1.frozen (p:=⟨w.heap.size+1,o,none⟩) (by simp;try omega) n1;have z1_1:w.heap.size+1<w1.heap.size:=ti (by simp;try omega) hk1.size;clear hc1 hk1;go_wp2_with fail
   refine(rZ R g cap P _ s HC1.out).mono ?_;rintro e w2 ⟨rfl,hc2,hk2⟩;have HC2:=zA hc2;have HT2:Hid (zB w.heap.size R w w2):=zB.step HT1.out hk2;have q2_0:=fun o=>hk2.cell (p:=⟨w.heap.size,o,none⟩) (by first|exact z1_0|(simp only[zL];exact z1_0)) n0;have r2_0:=fun o=>hk2.frozen (p:=⟨w.heap.size,o,none⟩) (by first|exact z1_0|(simp only[zL];exact z1_0)) n0;have z2_0:w.heap.size<w2.heap.size:=ti (by first|exact z1_0|(simp only[zL];exact z1_0)) hk2.size;have q2_1:=fun o=>hk2.cell (p:=⟨w.heap.size+1,o,none⟩) (by first|exact z1_1|(simp only[zL];exact z1_1)) n1;have r2_1:=fun o=>hk2.frozen (p:=⟨w.heap.size+1,o,none⟩) (by first|exact z1_1|(simp only[zL];exact z1_1)) n1;have z2_1:w.heap.size+1<w2.heap.size:=ti (by first|exact z1_1|(simp only[zL];exact z1_1)) hk2.size;clear hc2 hk2;go_wp2_with fail
   refine(vJ R g cap P _ (yM P s).2 [42] (yO.set HC2.out n1 m1)).mono ?_;rintro e w3 ⟨rfl,hc3,hk3⟩;rw[HS.out];have HC3:=zA hc3;have HT3:Hid (zB w.heap.size R w w3):=zB.step (zB.set HT2.out (mc _ _)) hk3;have q3_0:=fun o=>hk3.cell (p:=⟨w.heap.size,o,none⟩) (by first|exact z2_0|(simp only[zL];exact z2_0)) n0;have r3_0:=fun o=>hk3.frozen (p:=⟨w.heap.size,o,none⟩) (by first|exact z2_0|(simp only[zL];exact z2_0)) n0;have z3_0:w.heap.size<w3.heap.size:=ti (by first|exact z2_0|(simp only[zL];exact z2_0)) hk3.size;have q3_1:=fun o=>hk3.cell (p:=⟨w.heap.size+1,o,none⟩) (by first|exact z2_1|(simp only[zL];exact z2_1)) n1;have r3_1:=fun o=>hk3.frozen (p:=⟨w.heap.size+1,o,none⟩) (by first|exact z2_1|(simp only[zL];exact z2_1)) n1;have z3_1:w.heap.size+1<w3.heap.size:=ti (by first|exact z2_1|(simp only[zL];exact z2_1)) hk3.size;clear hc3 hk3;go_wp2_with fail
   refine(bS R g cap P _ (zC P [42] (yM P s).2).2 (yO.set HC3.out n1 m1)).mono ?_;rintro e w4 ⟨rfl,hc4,hk4⟩;have HC4:=zA hc4;have HT4:Hid (zB w.heap.size R w w4):=zB.step (zB.set HT3.out (mc _ _)) hk4;have q4_0:=fun o=>hk4.cell (p:=⟨w.heap.size,o,none⟩) (by first|exact z3_0|(simp only[zL];exact z3_0)) n0;have r4_0:=fun o=>hk4.frozen (p:=⟨w.heap.size,o,none⟩) (by first|exact z3_0|(simp only[zL];exact z3_0)) n0;have z4_0:w.heap.size<w4.heap.size:=ti (by first|exact z3_0|(simp only[zL];exact z3_0)) hk4.size;have q4_1:=fun o=>hk4.cell (p:=⟨w.heap.size+1,o,none⟩) (by first|exact z3_1|(simp only[zL];exact z3_1)) n1;have r4_1:=fun o=>hk4.frozen (p:=⟨w.heap.size+1,o,none⟩) (by first|exact z3_1|(simp only[zL];exact z3_1)) n1;have z4_1:w.heap.size+1<w4.heap.size:=ti (by first|exact z3_1|(simp only[zL];exact z3_1)) hk4.size;clear hc4 hk4;go_wp2_with fail
   refine ph (v:=rR ⟨m,true,(yM P s).1,(zI P (zC P [42] (yM P s).2).2).1⟩) (by simp[results,Tryz.results247,go_sem,rR,q1_0,q2_0,q3_0,q4_0]) rfl ⟨by rw[HP.out],by rw[HP.out];exact(yO.set (yO.set (yO.set (yO.set (yO.set HC4.out n1 m1) n0 m0) n0 m0) n0 m0) n0 m0),(zB.set (zB.set (zB.set (zB.set (zB.set HT4.out (mc _ _)) (t9 _)) (t9 _)) (t9 _)) (t9 _))⟩
def dI(P:List PT):Nat->Bool->St->List yZ->List yZ × St
 | 0,_,s,ps=>(ps,s)
 | n+1,m,s,ps =>
   match (zC P [45] (qL P m s).2).1 with
   | true=>dI P n true (zC P [45] (qL P m s).2).2 (ps++[(qL P m s).1])
   | false =>
     match (zC P [43] (zC P [45] (qL P m s).2).2).1 with
     | true=>dI P n false (zC P [43] (zC P [45] (qL P m s).2).2).2 (ps++[(qL P m s).1])
     | false=>(ps++[(qL P m s).1],(zC P [43] (zC P [45] (qL P m s).2).2).2)
def tQ(P:List PT)(s:St):List yZ × St:=dI P P.length false s []
def Yt(x:yZ):List Value:=[.bool x.minus,.bool x.starred,.int .i64 x.num,.string ⟨x.name.toArray⟩]
def cO(ps:List yZ):List Value:=ps.flatMap Yt
theorem CL(ps:List yZ)(x:yZ):cO (ps++[x])=cO ps++Yt x:=by simp[cO]
theorem fP(b:Bool)(a:Nat):a<=JK b a:=by cases b <;> simp[JK]
theorem X3(P:List PT)(m:Bool)(s:St):s.1<=(qL P m s).2.1:=by
 have h1:=fP (kP P 3 s.1 s.2) s.1;have h2:=fP (kP P 2 s.1 s.2) s.1;unfold qL;split
 ·have h3:=fP (bJ P [42] (yM P s).2.1 (yM P s).2.2) (yM P s).2.1
  split
  ·have h4:=fP (kP P 2 (zC P [42] (yM P s).2).2.1 (zC P [42] (yM P s).2).2.2) (zC P [42] (yM P s).2).2.1
   simp only[zI,zC,yM]at h3 h4 ⊢;omega
  ·simp only[zC,yM]at h3 ⊢;omega
 ·exact h2
theorem qU{P:List PT}{t:Bs}(h:(zC P t s).1=true):(zC P t s).2.1=s.1+1:=by
 simp only[zC]at h ⊢;rw[h];rfl
theorem xN(P:List PT)(t:Bs)(s:St):s.1<=(zC P t s).2.1:=fP _ _
theorem uQ{B:Nat}{e:TypeId}{size:Nat}{v:Value}{n:Nat}{xs:List Value}(h:w.ownsRow B e size v n xs)(hb:zB w.heap.size R w w')(hR:R<B):w'.ownsRow B e size v n xs:=by
 refine⟨h.1,?_⟩;rcases h.2 with h1|⟨g,cap,yW,h1,h2,h3,r⟩
 ·exact .inl h1
 ·refine .inr ⟨g,cap,yW,h1,h2,?_,r⟩
  have hg:g<w.heap.size:=by
   rcases po g w.heap.size with h|h
   ·exact h
   ·rw[pj h]at h3;cases h3
  rw[hb.block g hg (by omega)];exact h3
theorem zK{a:Addr}{v:Value}(h:k<w.heap.size):k<(w.setCell a v).heap.size:=by rw[zL];exact h
theorem oG{o:Obj}(h:k<w.heap.size):k<(w.alloc o).heap.size:=by simp;omega
theorem yL(w:World)(o:Obj):w.heap.size<(w.alloc o).heap.size:=by simp
theorem Zj(h:k<w.heap.size):k<w.drew.heap.size:=h
theorem jy:(Tryz.prog.info? 301).map (fun i=>(i.zero,i.size,i.bytes))=some (some (.agg #[.bool false,.bool false,.int .i64 0,.string ⟨#[]⟩]),4,32):=by kernel_rfl
theorem yO.grown{g cap:Nat}{P:List PT}{row:Option Nat}(h:vK w R g cap P s)(hg:w.grownBy w' row)(h1:row≠some R)(h2:row≠some g):vK w' R g cap P s:=by
 refine⟨?_,?_,h.gR,ti h.glt hg.size,h.at',h.cap1,h.cap2,h.many,h.endk⟩
 ·rw[hg.block R h.rlt (Ne.symm h1)];exact h.blk
 ·intro i hi
  have hb:∀o,w'.cell? ⟨g,o,none⟩=w.cell? ⟨g,o,none⟩:=fun o=>l7 (w:=w) (hg.block g h.glt (Ne.symm h2));rw[hb,hb,hb,hb];exact h.tok i hi
theorem zB.grown{B:Nat}{a:World}{row:Option Nat}(h:zB B R a w)(hg:w.grownBy w' row)(hB:B<=w.heap.size)(hr:∀k,row=some k->B<=k):zB B R a w' :=
 h.trans ⟨hg.os,hg.tape,hg.output,hg.size,fun k hk _=>hg.block k (by omega) (fun e=>by have:=hr k e.symm;omega)⟩
def uw(w:World)(R:Nat):Nat:=match w.cell? ⟨R,1,none⟩ with|some v=>(intOf v).toNat|none=>0
def wF(L R:Nat)(ov:Value)(w:World):Nat:=match ov with | .bool true=>L-uw w R|_=>0
theorem yO.rdAt{g cap:Nat}{P:List PT}(h:vK w R g cap P s):uw w R=s.1:=by
 unfold uw;rw[h.cells.2.1];simp[intOf]
theorem yO.meas{g cap:Nat}{P:List PT}(h:vK w R g cap P s):wF P.length R (.bool true) w=P.length-s.1:=by
 simp only[wF];rw[yO.rdAt h]
theorem zHL(w:World)(R g cap:Nat)(P:List PT)(s0:St)(h:vK w R g cap P s0) :
 Calls Tryz.prog 213 #[.pointer (some ⟨R,0,none⟩)] w fun e w'=>∃v,e=.returned v/\w'.ownsRow w.heap.size 301 4 v (tQ P s0).1.length (cO (tQ P s0).1)/\vK w' R g cap P (tQ P s0).2/\zB w.heap.size R w w':=by
 obtain⟨i0,hi0,hz0,hz1,hz2⟩:=dp jy;have hR:=h.rlt;have hg:=h.glt;have hmany:=h.many;have zJ8:=h.at';have HC:=zA h;obtain⟨B,hB⟩:∃B,B=w.heap.size:=⟨_,rfl⟩;have HB:Hid (B=w.heap.size):=hB;rw[<-hB];have hRB:R<B:=by omega
 have hgB:g<B:=by omega
 have HF:Hid (tQ P s0=dI P P.length false s0 []):=rfl;generalize tQ P s0=F at *;clear h hB hR hg
 go_enter Tryz.func213,Tryz.ntmps213
 go_wp2_with fail
 have h0:(w.alloc (.cells #[] 301)).ownsRow B 301 4 (.slice (some ⟨w.heap.size,0,none⟩) 0 0) 0 (cO []) :=
  ⟨rfl,.inr ⟨w.heap.size,0,#[],rfl,by rw[HB.out];exact t9 _,heap_alloc_new w _,t9 _,by simp[maxLen],rfl,rfl⟩⟩
 have H0:=zA h0;clear h0
 go_loopw [3,4,5] (fun pv mv ov wr=>∃(n:Nat) (s:St) (ps:List yZ) (m o:Bool),mv=.bool m/\ov=.bool o/\wr.ownsRow B 301 4 pv ps.length (cO ps)/\Hid (vK wr R g cap P s)/\Hid (zB w.heap.size R w wr)/\Hid ((o=true->ps.length<=s.1/\P.length-s.1<=n/\dI P n m s ps=F)/\(o=false->(ps,s)=F))) (fun _ _ ov wr=>wF P.length R ov wr)
 case atStart=>exact⟨P.length,s0,[],false,true,rfl,rfl,H0.out,zA (yO.alloc HC.out _),zA (zB.new (zB.refl _ _ _)),zA ⟨fun _=>⟨tr _,by omega,HF.out.symm⟩,fun h=>by cases h⟩⟩
 case round =>
  obtain⟨n,s,ps,m,o,rfl,rfl,zI8,HCr,HKr,HH⟩:=hrel;clear H0 HF
  cases o with
  | false =>
    have HE:=zA (HH.out.2 rfl);clear HH;go_wp2_with fail
    go_ret
    obtain rfl:=HE.out;exact⟨_,rfl,zI8,HCr.out,by rw[HB.out];exact HKr.out⟩
  | true =>
    obtain⟨hps,hn,hE⟩:=HH.out.1 rfl;have zJ8:=HCr.out.at';have HM:Hid (wF P.length R (.bool true) wr=P.length-s.1):=HCr.out.meas;obtain⟨n,rfl⟩:∃k,n=k+1:=⟨n-1,by omega⟩;have hpm:=X3 P m s;have HPart:=zA (zFU wr R g cap P m s HCr.out);rw[dI]at hE;have HE:=zA hE;clear HH hE;have hBr:B<=wr.heap.size:=by have h1:=HKr.out.size;have h2:=HB.out;omega
    go_wp2_with fail
    refine HPart.out.mono ?_;rintro e w1 ⟨rfl,hc1,hk1⟩;have zI9:=uQ zI8 hk1 hRB;have HK1:Hid (zB w.heap.size R w w1):=HKr.out.step hk1;have HC1:=zA hc1;have hB1:B<=w1.heap.size:=tx hBr hk1.size;have HOB:=zA (zQ zI9);have hpc:∀x:yZ,Yt x=[.bool x.minus,.bool x.starred,.int .i64 x.num,.string ⟨x.name.toArray⟩]:=fun _=>rfl;generalize hx:qL P m s=px at *;obtain⟨x,s1⟩:=px;simp only at hpm HC1 HE;obtain⟨xm,xs,xn,xnm⟩:=x;simp only[rR];have HX:=zA hx;clear hx hc1 hk1 zI8 HPart HCr HKr hpc
    go_wp2_with (at_builtin;refine wpList_append_own _ rfl _ _ 229 rfl B 301 i0 _ 4 32 Tryz.underlying229 hi0 hz0 hz1 hz2 rfl (by decide) _ _ _ rfl ((zI9.alloc _).alloc _) ⟨w1.heap.size+1,0,none⟩ 1 1 (Yt ⟨xm,xs,xn,xnm⟩) rfl rfl ?c1 ?c2 ?c3 ?c4 ?c5 ?_)
    case c1=>exact uT _ _ _ _ rfl (by simp)
    case c2=>intro u hu;simp[Yt]at hu;rcases hu with rfl|rfl|rfl|rfl <;> rfl
    case c3=>unfold maxLen;omega
    case c4=>omega
    case c5=>simp;omega
    intro v' w2 zIB zI7 _
    have hc2:vK w2 R g cap P s1:=yO.grown (yO.alloc (yO.alloc HC1.out _) _) zI7
     (fun e=>by have h1:=(HOB.out R e).1;omega) (fun e=>by have h1:=(HOB.out g e).1;omega)
    have HC2:=zA hc2;have HK2:Hid (zB w.heap.size R w w2):=zB.grown (zB.new (zB.new HK1.out)) zI7 (by simp;have h1:=HB.out;omega) (fun k hk=>by have h1:=(HOB.out k hk).1;have h2:=HB.out;omega);have hown2':w2.ownsRow B 301 4 v' (ps++[yZ.mk xm xs xn xnm]).length (cO (ps++[yZ.mk xm xs xn xnm])):=by rw[CL,tq];exact zIB
    have hB2:B<=w2.heap.size:=by have h1:=HK2.out.size;have h2:=HB.out;omega
    clear zI9 zIB zI7 HOB HC1 HK1 hc2;go_wp2_with fail
    refine(vJ R g cap P _ s1 [45] HC2.out).mono ?_;rintro e w3 ⟨rfl,hc3,hk3⟩;have zID:=uQ hown2' hk3 hRB;have HK3:Hid (zB w.heap.size R w w3):=HK2.out.step hk3;have HC3:=zA hc3;clear hown2' hk3 hc3 HK2 HC2;cases hs1:(zC P [45] s1).1
    ·have hE2:=HE.out
     simp only[hs1]at hE2;have HE2:=zA hE2;clear hE2 HE;generalize hy:(zC P [45] s1).2=s2 at *;have hmono:s1.1<=s2.1:=by rw[<-hy];exact xN P [45] s1
     clear hs1 hy;go_wp2_with fail
     refine(vJ R g cap P _ s2 [43] HC3.out).mono ?_;rintro e w4 ⟨rfl,hc4,hk4⟩;have zIX:=uQ zID hk4 hRB;have HK4:Hid (zB w.heap.size R w w4):=HK3.out.step hk4;have HC4:=zA hc4;clear zID hk4 hc4 HK3 HC3;cases hs2:(zC P [43] s2).1
     ·have hE2:=HE2.out
      simp only[hs2]at hE2;have HE3:=zA hE2;clear hE2 HE2 hs2;go_wp2_with fail
      go_roundw
      case rel=>exact⟨0,_,_,false,false,rfl,rfl,zIX,HC4,HK4,zA ⟨(fun h=>by cases h),fun _=>HE3.out⟩⟩
      case measure=>rw[HM.out];simp only[wF];omega
     ·have hE2:=HE2.out
      simp only[hs2]at hE2;have HE3:=zA hE2;have zIO:=qU hs2;clear hE2 HE2 hs2;have hat4:=HC4.out.at';go_wp2_with fail
      go_roundw
      case rel=>exact⟨n,_,_,false,true,rfl,rfl,zIX,HC4,HK4,zA ⟨fun _=>⟨by rw[tq,zIO];simp only[p7,List.length_nil];omega,by rw[zIO];omega,HE3.out⟩,fun h=>by cases h⟩⟩
      case measure=>rw[HM.out,yO.meas HC4.out,zIO];omega
    ·have hE2:=HE.out
     simp only[hs1]at hE2;have HE3:=zA hE2;have zIO:=qU hs1;clear hE2 HE hs1;have hat3:=HC3.out.at';go_wp2_with fail
     go_roundw
     case rel=>exact⟨n,_,_,true,true,rfl,rfl,zID,HC3,HK3,zA ⟨fun _=>⟨by rw[tq,zIO];simp only[p7,List.length_nil];omega,by rw[zIO];omega,HE3.out⟩,fun h=>by cases h⟩⟩
     case measure=>rw[HM.out,yO.meas HC3.out,zIO];omega
end Go.Proofs.YtnbpdffdnphbeaaGreatDoor
