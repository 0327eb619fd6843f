import Derived.Test.YtnbpdffdnphbeabGreatDoorAmongs
set_option maxHeartbeats 1000000
namespace Go.Proofs.YtnbpdffdnphbeabGreatDoor
open Go.RowKit
variable{k R:Nat}{w' w:World}
abbrev St:=Nat × Bool
variable{s:St}
def zD(P:List PT)(t:Bs)(s:St):Bool × St:=(jE P t s.1 s.2,(J4 (jE P t s.1 s.2) s.1,s.2))
def zO(P:List PT)(t:Bs)(s:St):St:=(J4 (jE P t s.1 s.2) s.1,!jE P t s.1 s.2)
def zG(P:List PT)(s:St):Bs × St:=((tk (uZ P 2 s.1 s.2) (yJ P s.1)).s,(J4 (uZ P 2 s.1 s.2) s.1,!uZ P 2 s.1 s.2))
def yB(P:List PT)(s:St):Int × St:=((tk (uZ P 3 s.1 s.2) (yJ P s.1)).v,(J4 (uZ P 3 s.1 s.2) s.1,!uZ P 3 s.1 s.2))
def isNum(P:List PT)(s:St):Bool:=(yJ P s.1).k==3
structure yT where
 minus:Bool
 starred:Bool
 num:Int
 name:Bs
def uL(P:List PT)(m:Bool)(s:St):yT × St :=
 match isNum P s with
 | true =>
   match (zD P [42] (yB P s).2).1 with
   | true=>(⟨m,true,(yB P s).1,(zG P (zD P [42] (yB P s).2).2).1⟩,(zG P (zD P [42] (yB P s).2).2).2)
   | false=>(⟨m,false,(yB P s).1,[]⟩,(zD P [42] (yB P s).2).2)
 | false=>(⟨m,false,0,(zG P s).1⟩,(zG P s).2)
abbrev xN(w:World)(R g cap:Nat)(P:List PT)(s:St):Prop:=yA w R g cap P s.1 s.2
def De(R g cap:Nat)(P:List PT):Prop:=∀(w:World) (s:St) (t:Bs),xN w R g cap P s ->
    Calls Tryz.prog 103 #[.pointer (some ⟨R,0,none⟩),.string ⟨t.toArray⟩] w fun e w'=>e=.returned (.bool (zD P t s).1)/\xN w' R g cap P (zD P t s).2/\zB w.heap.size R w w'
theorem xL(R g cap:Nat)(P:List PT):De R g cap P:=fun w s t h=>VP w R g cap P s.1 s.2 h t
def C9(R g cap:Nat)(P:List PT):Prop:=∀(w:World) (s:St) (t:Bs),xN w R g cap P s ->
    Calls Tryz.prog 107 #[.pointer (some ⟨R,0,none⟩),.string ⟨t.toArray⟩] w fun e w'=>e=.returned (.tuple #[])/\xN w' R g cap P (zO P t s)/\zB w.heap.size R w w'
theorem bY(R g cap:Nat)(P:List PT):C9 R g cap P:=fun w s t h=>zh w R g cap P s.1 s.2 h t
def DB(R g cap:Nat)(P:List PT):Prop:=∀(w:World) (s:St),xN w R g cap P s ->
    Calls Tryz.prog 149 #[.pointer (some ⟨R,0,none⟩)] w fun e w'=>e=.returned (.string ⟨(zG P s).1.toArray⟩)/\xN w' R g cap P (zG P s).2/\zB w.heap.size R w w'
theorem pO(R g cap:Nat)(P:List PT):DB R g cap P:=fun w s h=>xy w R g cap P s.1 s.2 h
def Kw(R g cap:Nat)(P:List PT):Prop:=∀(w:World) (s:St),xN w R g cap P s ->
    Calls Tryz.prog 150 #[.pointer (some ⟨R,0,none⟩)] w fun e w'=>e=.returned (.int .i64 (yB P s).1)/\xN w' R g cap P (yB P s).2/\zB w.heap.size R w w'
theorem fQ(R g cap:Nat)(P:List PT):Kw R g cap P:=fun w s h=>Bm w R g cap P s.1 s.2 h
def D4(R g cap:Nat)(P:List PT):Prop:=∀(w:World) (s:St) (kd:Int),xN w R g cap P s ->
    Calls Tryz.prog 71 #[.pointer (some ⟨R,0,none⟩),.int .i64 kd] w fun e w'=>e=.returned (.bool ((yJ P s.1).k==kd))/\xN w' R g cap P s/\zB w.heap.size R w w'
theorem oM(R g cap:Nat)(P:List PT):D4 R g cap P:=fun w s kd h=>xq w R g cap P s.1 s.2 h kd
section
variable {w:World} {R g cap:Nat} {P:List PT} {s:St}
theorem yA.alloc(h:xN w R g cap P s)(o:Obj):xN (w.alloc o) R g cap P s :=
 h.keeps (pQ h.rlt h.blk) ((zB.refl _ _ _).alloc (j1 _) _) h.at'
theorem yA.drew(h:xN w R g cap P s):xN w.drew R g cap P s:=h.keeps h.blk (zB.refl _ _ _).drew h.at'
theorem yA.setCell(h:xN w R g cap P s){p:Addr}(hr:p.block≠R)(hg:p.block≠g)(u:Value):xN (w.setCell p u) R g cap P s:=by
 refine⟨?_,?_,h.gR,by rw[zK];exact h.glt,h.at',h.cap1,h.cap2,h.many,h.endk⟩
 ·rw[ms _ _ _ _ (Ne.symm hr)];exact h.blk
 ·intro i hi
  have hb:∀o,(w.setCell p u).cell? ⟨g,o,none⟩=w.cell? ⟨g,o,none⟩:=fun o=>World.cell?_of_block (w:=w) (ms _ _ _ _ (Ne.symm hg));rw[hb,hb,hb,hb];exact h.tok i hi
end
theorem yA.set{g cap:Nat}{P:List PT}{b o:Nat}{u:Value}(h:xN w R g cap P s)(hr:b≠R)(hg:b≠g):xN (w.setCell ⟨b,o,none⟩ u) R g cap P s:=yA.setCell h (p:=⟨b,o,none⟩) hr hg u
theorem zB.set{b o:Nat}{u:Value}(h:zB w.heap.size R w w')(hb:w.heap.size<=b):zB w.heap.size R w (w'.setCell ⟨b,o,none⟩ u):=zB.setCell h (p:=⟨b,o,none⟩) (.inl hb) u
theorem zB.new{x:Obj}(h:zB w.heap.size R w w'):zB w.heap.size R w (w'.alloc x):=zB.alloc h h.size x
theorem zB.step{W w1:World}(h:zB w.heap.size R w W)(k:zB W.heap.size R W w1):zB w.heap.size R w w1:=h.trans (k.mono h.size)
def fK(x:yT):Value:=.agg #[.bool x.minus,.bool x.starred,.int .i64 x.num,.string ⟨x.name.toArray⟩]
theorem zAV(w:World)(R g cap:Nat)(P:List PT)(m:Bool)(s:St)(h:xN w R g cap P s) :
 Calls Tryz.prog 181 #[.pointer (some ⟨R,0,none⟩),.bool m] w fun e w'=>e=.returned (fK (uL P m s).1)/\xN w' R g cap P (uL P m s).2/\zB w.heap.size R w w':=by
 have hR:=h.rlt;have hg:=h.glt;have n0:w.heap.size≠R:=by omega
 have n1:w.heap.size+1≠R:=by omega
 have m0:w.heap.size≠g:=by omega
 have m1:w.heap.size+1≠g:=by omega
 have HC0:=zA h;clear h;cases hb:isNum P s
 ·have HP:Hid (uL P m s=(⟨m,false,0,(zG P s).1⟩,(zG P s).2)):=by unfold Hid uL;rw[hb]
  have HN:=zA hb;clear hb
  go_enter Tryz.func181,Tryz.ntmps181
  go_wp2_with fail
  refine(oM R g cap P _ s 3 (yA.alloc (yA.alloc HC0.out _) _)).mono ?_;rintro e w1 ⟨rfl,hc1,hk1⟩;rw[show ((yJ P s.1).k==3)=false from HN.out];have HC1:=zA hc1;have HT1:Hid (zB w.heap.size R w w1):=zB.step (zB.new (zB.new (zB.refl _ _ _))) hk1;have q1_0:=fun o=>hk1.cell (p:=⟨w.heap.size,o,none⟩) (by simp;try omega) n0;have r1_0:=fun o=>hk1.frozen (p:=⟨w.heap.size,o,none⟩) (by simp;try omega) n0;have z1_0:w.heap.size<w1.heap.size:=t8 (by simp;try omega) hk1.size;have q1_1:=fun o=>hk1.cell (p:=⟨w.heap.size+1,o,none⟩) (by simp;try omega) n1;have r1_1:=fun o=>hk1.frozen (p:=⟨w.heap.size+1,o,none⟩) (by simp;try omega) n1;have z1_1:w.heap.size+1<w1.heap.size:=t8 (by simp;try omega) hk1.size;clear hc1 hk1;go_wp2_with fail
  refine(pO R g cap P _ s HC1.out).mono ?_;rintro e w2 ⟨rfl,hc2,hk2⟩;have HC2:=zA hc2;have HT2:Hid (zB w.heap.size R w w2):=zB.step HT1.out hk2;have q2_0:=fun o=>hk2.cell (p:=⟨w.heap.size,o,none⟩) (by first|exact z1_0|(simp only[zK];exact z1_0)) n0;have r2_0:=fun o=>hk2.frozen (p:=⟨w.heap.size,o,none⟩) (by first|exact z1_0|(simp only[zK];exact z1_0)) n0;have z2_0:w.heap.size<w2.heap.size:=t8 (by first|exact z1_0|(simp only[zK];exact z1_0)) hk2.size;have q2_1:=fun o=>hk2.cell (p:=⟨w.heap.size+1,o,none⟩) (by first|exact z1_1|(simp only[zK];exact z1_1)) n1;have r2_1:=fun o=>hk2.frozen (p:=⟨w.heap.size+1,o,none⟩) (by first|exact z1_1|(simp only[zK];exact z1_1)) n1;have z2_1:w.heap.size+1<w2.heap.size:=t8 (by first|exact z1_1|(simp only[zK];exact z1_1)) hk2.size;clear hc2 hk2;go_wp2_with fail
  refine p5 (v:=fK ⟨m,false,0,(zG P s).1⟩) (by simp[results,Tryz.results181,go_sem,fK,q1_0,q2_0]) rfl ⟨by rw[HP.out],by rw[HP.out];exact(yA.set (yA.set (yA.set (yA.set (yA.set HC2.out n1 m1) n0 m0) n0 m0) n0 m0) n0 m0),(zB.set (zB.set (zB.set (zB.set (zB.set HT2.out (pw _ _)) (j1 _)) (j1 _)) (j1 _)) (j1 _))⟩
 ·have HN:=zA hb
  cases hs:(zD P [42] (yB P s).2).1
  ·have HP:Hid (uL P m s=(⟨m,false,(yB P s).1,[]⟩,(zD P [42] (yB P s).2).2)):=by unfold Hid uL;rw[hb];simp only[hs]
   have HS:=zA hs;clear hb hs
   go_enter Tryz.func181,Tryz.ntmps181
   go_wp2_with fail
   refine(oM R g cap P _ s 3 (yA.alloc (yA.alloc HC0.out _) _)).mono ?_;rintro e w1 ⟨rfl,hc1,hk1⟩;rw[show ((yJ P s.1).k==3)=true from HN.out];have HC1:=zA hc1;have HT1:Hid (zB w.heap.size R w w1):=zB.step (zB.new (zB.new (zB.refl _ _ _))) hk1;have q1_0:=fun o=>hk1.cell (p:=⟨w.heap.size,o,none⟩) (by simp;try omega) n0;have r1_0:=fun o=>hk1.frozen (p:=⟨w.heap.size,o,none⟩) (by simp;try omega) n0;have z1_0:w.heap.size<w1.heap.size:=t8 (by simp;try omega) hk1.size;have q1_1:=fun o=>hk1.cell (p:=⟨w.heap.size+1,o,none⟩) (by simp;try omega) n1;have r1_1:=fun o=>hk1.frozen (p:=⟨w.heap.size+1,o,none⟩) (by simp;try omega) n1;have z1_1:w.heap.size+1<w1.heap.size:=t8 (by simp;try omega) hk1.size;clear hc1 hk1;go_wp2_with fail
   refine(fQ R g cap P _ s HC1.out).mono ?_;rintro e w2 ⟨rfl,hc2,hk2⟩;have HC2:=zA hc2;have HT2:Hid (zB w.heap.size R w w2):=zB.step HT1.out hk2;have q2_0:=fun o=>hk2.cell (p:=⟨w.heap.size,o,none⟩) (by first|exact z1_0|(simp only[zK];exact z1_0)) n0;have r2_0:=fun o=>hk2.frozen (p:=⟨w.heap.size,o,none⟩) (by first|exact z1_0|(simp only[zK];exact z1_0)) n0;have z2_0:w.heap.size<w2.heap.size:=t8 (by first|exact z1_0|(simp only[zK];exact z1_0)) hk2.size;have q2_1:=fun o=>hk2.cell (p:=⟨w.heap.size+1,o,none⟩) (by first|exact z1_1|(simp only[zK];exact z1_1)) n1;have r2_1:=fun o=>hk2.frozen (p:=⟨w.heap.size+1,o,none⟩) (by first|exact z1_1|(simp only[zK];exact z1_1)) n1;have z2_1:w.heap.size+1<w2.heap.size:=t8 (by first|exact z1_1|(simp only[zK];exact z1_1)) hk2.size;clear hc2 hk2;go_wp2_with fail
   refine(xL R g cap P _ (yB P s).2 [42] (yA.set HC2.out n1 m1)).mono ?_;rintro e w3 ⟨rfl,hc3,hk3⟩;rw[HS.out];have HC3:=zA hc3;have HT3:Hid (zB w.heap.size R w w3):=zB.step (zB.set HT2.out (pw _ _)) hk3;have q3_0:=fun o=>hk3.cell (p:=⟨w.heap.size,o,none⟩) (by first|exact z2_0|(simp only[zK];exact z2_0)) n0;have r3_0:=fun o=>hk3.frozen (p:=⟨w.heap.size,o,none⟩) (by first|exact z2_0|(simp only[zK];exact z2_0)) n0;have z3_0:w.heap.size<w3.heap.size:=t8 (by first|exact z2_0|(simp only[zK];exact z2_0)) hk3.size;have q3_1:=fun o=>hk3.cell (p:=⟨w.heap.size+1,o,none⟩) (by first|exact z2_1|(simp only[zK];exact z2_1)) n1;have r3_1:=fun o=>hk3.frozen (p:=⟨w.heap.size+1,o,none⟩) (by first|exact z2_1|(simp only[zK];exact z2_1)) n1;have z3_1:w.heap.size+1<w3.heap.size:=t8 (by first|exact z2_1|(simp only[zK];exact z2_1)) hk3.size;clear hc3 hk3;go_wp2_with fail
   refine p5 (v:=fK ⟨m,false,(yB P s).1,[]⟩) (by simp[results,Tryz.results181,go_sem,fK,q1_0,q2_0,q3_0]) rfl ⟨by rw[HP.out],by rw[HP.out];exact(yA.set (yA.set (yA.set (yA.set (yA.set HC3.out n1 m1) n0 m0) n0 m0) n0 m0) n0 m0),(zB.set (zB.set (zB.set (zB.set (zB.set HT3.out (pw _ _)) (j1 _)) (j1 _)) (j1 _)) (j1 _))⟩
  ·have HP:Hid (uL P m s=(⟨m,true,(yB P s).1,(zG P (zD P [42] (yB P s).2).2).1⟩,(zG P (zD P [42] (yB P s).2).2).2)):=by unfold Hid uL;rw[hb];simp only[hs]
   have HS:=zA hs;clear hb hs
   go_enter Tryz.func181,Tryz.ntmps181
   go_wp2_with fail
   refine(oM R g cap P _ s 3 (yA.alloc (yA.alloc HC0.out _) _)).mono ?_;rintro e w1 ⟨rfl,hc1,hk1⟩;rw[show ((yJ P s.1).k==3)=true from HN.out];have HC1:=zA hc1;have HT1:Hid (zB w.heap.size R w w1):=zB.step (zB.new (zB.new (zB.refl _ _ _))) hk1;have q1_0:=fun o=>hk1.cell (p:=⟨w.heap.size,o,none⟩) (by simp;try omega) n0;have r1_0:=fun o=>hk1.frozen (p:=⟨w.heap.size,o,none⟩) (by simp;try omega) n0;have z1_0:w.heap.size<w1.heap.size:=t8 (by simp;try omega) hk1.size;have q1_1:=fun o=>hk1.cell (p:=⟨w.heap.size+1,o,none⟩) (by simp;try omega) n1;have r1_1:=fun o=>hk1.frozen (p:=⟨w.heap.size+1,o,none⟩) (by simp;try omega) n1;have z1_1:w.heap.size+1<w1.heap.size:=t8 (by simp;try omega) hk1.size;clear hc1 hk1;go_wp2_with fail
   refine(fQ R g cap P _ s HC1.out).mono ?_;rintro e w2 ⟨rfl,hc2,hk2⟩;have HC2:=zA hc2;have HT2:Hid (zB w.heap.size R w w2):=zB.step HT1.out hk2;have q2_0:=fun o=>hk2.cell (p:=⟨w.heap.size,o,none⟩) (by first|exact z1_0|(simp only[zK];exact z1_0)) n0;have r2_0:=fun o=>hk2.frozen (p:=⟨w.heap.size,o,none⟩) (by first|exact z1_0|(simp only[zK];exact z1_0)) n0;have z2_0:w.heap.size<w2.heap.size:=t8 (by first|exact z1_0|(simp only[zK];exact z1_0)) hk2.size;have q2_1:=fun o=>hk2.cell (p:=⟨w.heap.size+1,o,none⟩) (by first|exact z1_1|(simp only[zK];exact z1_1)) n1;have r2_1:=fun o=>hk2.frozen (p:=⟨w.heap.size+1,o,none⟩) (by first|exact z1_1|(simp only[zK];exact z1_1)) n1;have z2_1:w.heap.size+1<w2.heap.size:=t8 (by first|exact z1_1|(simp only[zK];exact z1_1)) hk2.size;clear hc2 hk2;go_wp2_with fail
   refine(xL R g cap P _ (yB P s).2 [42] (yA.set HC2.out n1 m1)).mono ?_;rintro e w3 ⟨rfl,hc3,hk3⟩;rw[HS.out];have HC3:=zA hc3;have HT3:Hid (zB w.heap.size R w w3):=zB.step (zB.set HT2.out (pw _ _)) hk3;have q3_0:=fun o=>hk3.cell (p:=⟨w.heap.size,o,none⟩) (by first|exact z2_0|(simp only[zK];exact z2_0)) n0;have r3_0:=fun o=>hk3.frozen (p:=⟨w.heap.size,o,none⟩) (by first|exact z2_0|(simp only[zK];exact z2_0)) n0;have z3_0:w.heap.size<w3.heap.size:=t8 (by first|exact z2_0|(simp only[zK];exact z2_0)) hk3.size;have q3_1:=fun o=>hk3.cell (p:=⟨w.heap.size+1,o,none⟩) (by first|exact z2_1|(simp only[zK];exact z2_1)) n1;have r3_1:=fun o=>hk3.frozen (p:=⟨w.heap.size+1,o,none⟩) (by first|exact z2_1|(simp only[zK];exact z2_1)) n1;have z3_1:w.heap.size+1<w3.heap.size:=t8 (by first|exact z2_1|(simp only[zK];exact z2_1)) hk3.size;clear hc3 hk3;go_wp2_with fail
   refine(pO R g cap P _ (zD P [42] (yB P s).2).2 (yA.set HC3.out n1 m1)).mono ?_;rintro e w4 ⟨rfl,hc4,hk4⟩;have HC4:=zA hc4;have HT4:Hid (zB w.heap.size R w w4):=zB.step (zB.set HT3.out (pw _ _)) hk4;have q4_0:=fun o=>hk4.cell (p:=⟨w.heap.size,o,none⟩) (by first|exact z3_0|(simp only[zK];exact z3_0)) n0;have r4_0:=fun o=>hk4.frozen (p:=⟨w.heap.size,o,none⟩) (by first|exact z3_0|(simp only[zK];exact z3_0)) n0;have z4_0:w.heap.size<w4.heap.size:=t8 (by first|exact z3_0|(simp only[zK];exact z3_0)) hk4.size;have q4_1:=fun o=>hk4.cell (p:=⟨w.heap.size+1,o,none⟩) (by first|exact z3_1|(simp only[zK];exact z3_1)) n1;have r4_1:=fun o=>hk4.frozen (p:=⟨w.heap.size+1,o,none⟩) (by first|exact z3_1|(simp only[zK];exact z3_1)) n1;have z4_1:w.heap.size+1<w4.heap.size:=t8 (by first|exact z3_1|(simp only[zK];exact z3_1)) hk4.size;clear hc4 hk4;go_wp2_with fail
   refine p5 (v:=fK ⟨m,true,(yB P s).1,(zG P (zD P [42] (yB P s).2).2).1⟩) (by simp[results,Tryz.results181,go_sem,fK,q1_0,q2_0,q3_0,q4_0]) rfl ⟨by rw[HP.out],by rw[HP.out];exact(yA.set (yA.set (yA.set (yA.set (yA.set HC4.out n1 m1) n0 m0) n0 m0) n0 m0) n0 m0),(zB.set (zB.set (zB.set (zB.set (zB.set HT4.out (pw _ _)) (j1 _)) (j1 _)) (j1 _)) (j1 _))⟩
def mD(P:List PT):Nat->Bool->St->List yT->List yT × St
 | 0,_,s,ps=>(ps,s)
 | n+1,m,s,ps =>
   match (zD P [45] (uL P m s).2).1 with
   | true=>mD P n true (zD P [45] (uL P m s).2).2 (ps++[(uL P m s).1])
   | false =>
     match (zD P [43] (zD P [45] (uL P m s).2).2).1 with
     | true=>mD P n false (zD P [43] (zD P [45] (uL P m s).2).2).2 (ps++[(uL P m s).1])
     | false=>(ps++[(uL P m s).1],(zD P [43] (zD P [45] (uL P m s).2).2).2)
def kY(P:List PT)(s:St):List yT × St:=mD P P.length false s []
def eF(x:yT):List Value:=[.bool x.minus,.bool x.starred,.int .i64 x.num,.string ⟨x.name.toArray⟩]
def mI(ps:List yT):List Value:=ps.flatMap eF
theorem Vd(ps:List yT)(x:yT):mI (ps++[x])=mI ps++eF x:=by simp[mI]
theorem bH(b:Bool)(a:Nat):a<=J4 b a:=by cases b <;> simp[J4]
theorem wZ(P:List PT)(m:Bool)(s:St):s.1<=(uL P m s).2.1:=by
 have h1:=bH (uZ P 3 s.1 s.2) s.1;have h2:=bH (uZ P 2 s.1 s.2) s.1;unfold uL;split
 ·have h3:=bH (jE P [42] (yB P s).2.1 (yB P s).2.2) (yB P s).2.1
  split
  ·have h4:=bH (uZ P 2 (zD P [42] (yB P s).2).2.1 (zD P [42] (yB P s).2).2.2) (zD P [42] (yB P s).2).2.1
   simp only[zG,zD,yB]at h3 h4 ⊢;omega
  ·simp only[zD,yB]at h3 ⊢;omega
 ·exact h2
theorem qI{P:List PT}{t:Bs}(h:(zD P t s).1=true):(zD P t s).2.1=s.1+1:=by
 simp only[zD]at h ⊢;rw[h];rfl
theorem xM(P:List PT)(t:Bs)(s:St):s.1<=(zD P t s).2.1:=bH _ _
theorem vO{B:Nat}{e:TypeId}{size:Nat}{v:Value}{n:Nat}{xs:List Value}(h:w.ownsRow B e size v n xs)(hb:zB w.heap.size R w w')(hR:R<B):w'.ownsRow B e size v n xs:=by
 refine⟨h.1,?_⟩;rcases h.2 with h1|⟨g,cap,yJ,h1,h2,h3,r⟩
 ·exact .inl h1
 ·refine .inr ⟨g,cap,yJ,h1,h2,?_,r⟩
  have hg:g<w.heap.size:=by
   rcases pf g w.heap.size with h|h
   ·exact h
   ·rw[pb h]at h3;cases h3
  rw[hb.block g hg (by omega)];exact h3
theorem zI{a:Addr}{v:Value}(h:k<w.heap.size):k<(w.setCell a v).heap.size:=by rw[zK];exact h
theorem dK{o:Obj}(h:k<w.heap.size):k<(w.alloc o).heap.size:=by simp;omega
theorem zQ(w:World)(o:Obj):w.heap.size<(w.alloc o).heap.size:=by simp
theorem rP(h:k<w.heap.size):k<w.drew.heap.size:=h
theorem Fo:(Tryz.prog.info? 235).map (fun i=>(i.zero,i.size,i.bytes))=some (some (.agg #[.bool false,.bool false,.int .i64 0,.string ⟨#[]⟩]),4,32):=by kernel_rfl
theorem yA.grown{g cap:Nat}{P:List PT}{row:Option Nat}(h:xN w R g cap P s)(hg:w.grownBy w' row)(h1:row≠some R)(h2:row≠some g):xN w' R g cap P s:=by
 refine⟨?_,?_,h.gR,t8 h.glt hg.size,h.at',h.cap1,h.cap2,h.many,h.endk⟩
 ·rw[hg.block R h.rlt (Ne.symm h1)];exact h.blk
 ·intro i hi
  have hb:∀o,w'.cell? ⟨g,o,none⟩=w.cell? ⟨g,o,none⟩:=fun o=>World.cell?_of_block (w:=w) (hg.block g h.glt (Ne.symm h2));rw[hb,hb,hb,hb];exact h.tok i hi
theorem zB.grown{B:Nat}{a:World}{row:Option Nat}(h:zB B R a w)(hg:w.grownBy w' row)(hB:B<=w.heap.size)(hr:∀k,row=some k->B<=k):zB B R a w' :=
 h.trans ⟨hg.os,hg.tape,hg.output,hg.size,fun k hk _=>hg.block k (by omega) (fun e=>by have:=hr k e.symm;omega)⟩
def Dt(w:World)(R:Nat):Nat:=match w.cell? ⟨R,1,none⟩ with|some v=>(intOf v).toNat|none=>0
def oZ(L R:Nat)(ov:Value)(w:World):Nat:=match ov with | .bool true=>L-Dt w R|_=>0
theorem yA.rdAt{g cap:Nat}{P:List PT}(h:xN w R g cap P s):Dt w R=s.1:=by
 unfold Dt;rw[h.cells.2.1];simp[intOf]
theorem yA.meas{g cap:Nat}{P:List PT}(h:xN w R g cap P s):oZ P.length R (.bool true) w=P.length-s.1:=by
 simp only[oZ];rw[yA.rdAt h]
theorem zD0(w:World)(R g cap:Nat)(P:List PT)(s0:St)(h:xN w R g cap P s0) :
 Calls Tryz.prog 151 #[.pointer (some ⟨R,0,none⟩)] w fun e w'=>∃v,e=.returned v/\w'.ownsRow w.heap.size 235 4 v (kY P s0).1.length (mI (kY P s0).1)/\xN w' R g cap P (kY P s0).2/\zB w.heap.size R w w':=by
 obtain⟨i0,hi0,hz0,hz1,hz2⟩:=info_parts Fo;have hR:=h.rlt;have hg:=h.glt;have hmany:=h.many;have hat:=h.at';have HC:=zA h;obtain⟨B,hB⟩:∃B,B=w.heap.size:=⟨_,rfl⟩;have HB:Hid (B=w.heap.size):=hB;rw[<-hB];have hRB:R<B:=by omega
 have hgB:g<B:=by omega
 have HF:Hid (kY P s0=mD P P.length false s0 []):=rfl;generalize kY P s0=F at *;clear h hB hR hg
 go_enter Tryz.func151,Tryz.ntmps151
 go_wp2_with fail
 have h0:(w.alloc (.cells #[] 235)).ownsRow B 235 4 (.slice (some ⟨w.heap.size,0,none⟩) 0 0) 0 (mI []) :=
  ⟨rfl,.inr ⟨w.heap.size,0,#[],rfl,by rw[HB.out];exact j1 _,heap_alloc_new w _,j1 _,by simp[maxLen],rfl,rfl⟩⟩
 have H0:=zA h0;clear h0
 go_loopw [3,4,5] (fun pv mv ov wr=>∃(n:Nat) (s:St) (ps:List yT) (m o:Bool),mv=.bool m/\ov=.bool o/\wr.ownsRow B 235 4 pv ps.length (mI ps)/\Hid (xN wr R g cap P s)/\Hid (zB w.heap.size R w wr)/\Hid ((o=true->ps.length<=s.1/\P.length-s.1<=n/\mD P n m s ps=F)/\(o=false->(ps,s)=F))) (fun _ _ ov wr=>oZ P.length R ov wr)
 case atStart=>exact⟨P.length,s0,[],false,true,rfl,rfl,H0.out,zA (yA.alloc HC.out _),zA (zB.new (zB.refl _ _ _)),zA ⟨fun _=>⟨tq _,by omega,HF.out.symm⟩,fun h=>by cases h⟩⟩
 case round =>
  obtain⟨n,s,ps,m,o,rfl,rfl,zEA,HCr,HKr,HH⟩:=hrel;clear H0 HF
  cases o with
  | false =>
    have HE:=zA (HH.out.2 rfl);clear HH;go_wp2_with fail
    go_ret
    obtain rfl:=HE.out;exact⟨_,rfl,zEA,HCr.out,by rw[HB.out];exact HKr.out⟩
  | true =>
    obtain⟨hps,hn,hE⟩:=HH.out.1 rfl;have hat:=HCr.out.at';have HM:Hid (oZ P.length R (.bool true) wr=P.length-s.1):=HCr.out.meas;obtain⟨n,rfl⟩:∃k,n=k+1:=⟨n-1,by omega⟩;have hpm:=wZ P m s;have HPart:=zA (zAV wr R g cap P m s HCr.out);rw[mD]at hE;have HE:=zA hE;clear HH hE;have hBr:B<=wr.heap.size:=by have h1:=HKr.out.size;have h2:=HB.out;omega
    go_wp2_with fail
    refine HPart.out.mono ?_;rintro e w1 ⟨rfl,hc1,hk1⟩;have zEK:=vO zEA hk1 hRB;have HK1:Hid (zB w.heap.size R w w1):=HKr.out.step hk1;have HC1:=zA hc1;have hB1:B<=w1.heap.size:=tr hBr hk1.size;have HOB:=zA (uG zEK);have hpc:∀x:yT,eF x=[.bool x.minus,.bool x.starred,.int .i64 x.num,.string ⟨x.name.toArray⟩]:=fun _=>rfl;generalize hx:uL P m s=px at *;obtain⟨x,s1⟩:=px;simp only at hpm HC1 HE;obtain⟨xm,xs,xn,xnm⟩:=x;simp only[fK];have HX:=zA hx;clear hx hc1 hk1 zEA HPart HCr HKr hpc
    go_wp2_with (at_builtin;refine wpList_append_own _ rfl _ _ 179 rfl B 235 i0 _ 4 32 Tryz.underlying179 hi0 hz0 hz1 hz2 rfl (by decide) _ _ _ rfl ((zEK.alloc _).alloc _) ⟨w1.heap.size+1,0,none⟩ 1 1 (eF ⟨xm,xs,xn,xnm⟩) rfl rfl ?c1 ?c2 ?c3 ?c4 ?c5 ?_)
    case c1=>exact qB _ _ _ _ rfl (by simp)
    case c2=>intro u hu;simp[eF]at hu;rcases hu with rfl|rfl|rfl|rfl <;> rfl
    case c3=>unfold maxLen;omega
    case c4=>omega
    case c5=>simp;omega
    intro v' w2 zEN zEC _
    have hc2:xN w2 R g cap P s1:=yA.grown (yA.alloc (yA.alloc HC1.out _) _) zEC
     (fun e=>by have h1:=(HOB.out R e).1;omega) (fun e=>by have h1:=(HOB.out g e).1;omega)
    have HC2:=zA hc2;have HK2:Hid (zB w.heap.size R w w2):=zB.grown (zB.new (zB.new HK1.out)) zEC (by simp;have h1:=HB.out;omega) (fun k hk=>by have h1:=(HOB.out k hk).1;have h2:=HB.out;omega);have hown2':w2.ownsRow B 235 4 v' (ps++[yT.mk xm xs xn xnm]).length (mI (ps++[yT.mk xm xs xn xnm])):=by rw[Vd,tb];exact zEN
    have hB2:B<=w2.heap.size:=by have h1:=HK2.out.size;have h2:=HB.out;omega
    clear zEK zEN zEC HOB HC1 HK1 hc2;go_wp2_with fail
    refine(xL R g cap P _ s1 [45] HC2.out).mono ?_;rintro e w3 ⟨rfl,hc3,hk3⟩;have zER:=vO hown2' hk3 hRB;have HK3:Hid (zB w.heap.size R w w3):=HK2.out.step hk3;have HC3:=zA hc3;clear hown2' hk3 hc3 HK2 HC2;cases hs1:(zD P [45] s1).1
    ·have hE2:=HE.out
     simp only[hs1]at hE2;have HE2:=zA hE2;clear hE2 HE;generalize hy:(zD P [45] s1).2=s2 at *;have hmono:s1.1<=s2.1:=by rw[<-hy];exact xM P [45] s1
     clear hs1 hy;go_wp2_with fail
     refine(xL R g cap P _ s2 [43] HC3.out).mono ?_;rintro e w4 ⟨rfl,hc4,hk4⟩;have hown4:=vO zER hk4 hRB;have HK4:Hid (zB w.heap.size R w w4):=HK3.out.step hk4;have HC4:=zA hc4;clear zER hk4 hc4 HK3 HC3;cases hs2:(zD P [43] s2).1
     ·have hE2:=HE2.out
      simp only[hs2]at hE2;have HE3:=zA hE2;clear hE2 HE2 hs2;go_wp2_with fail
      go_roundw
      case rel=>exact⟨0,_,_,false,false,rfl,rfl,hown4,HC4,HK4,zA ⟨(fun h=>by cases h),fun _=>HE3.out⟩⟩
      case measure=>rw[HM.out];simp only[oZ];omega
     ·have hE2:=HE2.out
      simp only[hs2]at hE2;have HE3:=zA hE2;have zET:=qI hs2;clear hE2 HE2 hs2;have hat4:=HC4.out.at';go_wp2_with fail
      go_roundw
      case rel=>exact⟨n,_,_,false,true,rfl,rfl,hown4,HC4,HK4,zA ⟨fun _=>⟨by rw[tb,zET];simp only[ty,List.length_nil];omega,by rw[zET];omega,HE3.out⟩,fun h=>by cases h⟩⟩
      case measure=>rw[HM.out,yA.meas HC4.out,zET];omega
    ·have hE2:=HE.out
     simp only[hs1]at hE2;have HE3:=zA hE2;have zET:=qI hs1;clear hE2 HE hs1;have hat3:=HC3.out.at';go_wp2_with fail
     go_roundw
     case rel=>exact⟨n,_,_,true,true,rfl,rfl,zER,HC3,HK3,zA ⟨fun _=>⟨by rw[tb,zET];simp only[ty,List.length_nil];omega,by rw[zET];omega,HE3.out⟩,fun h=>by cases h⟩⟩
     case measure=>rw[HM.out,yA.meas HC3.out,zET];omega
end Go.Proofs.YtnbpdffdnphbeabGreatDoor
