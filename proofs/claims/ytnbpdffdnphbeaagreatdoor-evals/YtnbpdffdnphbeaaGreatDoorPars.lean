import Derived.Test.YtnbpdffdnphbeaaGreatDoorCtx
set_option maxHeartbeats 1000000
namespace Go.Proofs.YtnbpdffdnphbeaaGreatDoor
open Go.RowKit
abbrev St:=Nat × Bool
def zC(P:List PT)(t:Bs)(s:St):Bool × St:=(bD P t s.1 s.2,(Jj (bD P t s.1 s.2) s.1,s.2))
def zY(P:List PT)(t:Bs)(s:St):St:=(Jj (bD P t s.1 s.2) s.1,!bD P t s.1 s.2)
def zN(P:List PT)(s:St):Bs × St:=((tk (qW P 2 s.1 s.2) (yO P s.1)).s,(Jj (qW P 2 s.1 s.2) s.1,!qW P 2 s.1 s.2))
def yR(P:List PT)(s:St):Int × St:=((tk (qW P 3 s.1 s.2) (yO P s.1)).v,(Jj (qW P 3 s.1 s.2) s.1,!qW P 3 s.1 s.2))
def isNum(P:List PT)(s:St):Bool:=(yO P s.1).k==3
structure xC where
 minus:Bool
 starred:Bool
 num:Int
 name:Bs
def qC(P:List PT)(m:Bool)(s:St):xC × St :=
 match isNum P s with
 | true =>
   match (zC P [42] (yR P s).2).1 with
   | true=>(⟨m,true,(yR P s).1,(zN P (zC P [42] (yR P s).2).2).1⟩,(zN P (zC P [42] (yR P s).2).2).2)
   | false=>(⟨m,false,(yR P s).1,[]⟩,(zC P [42] (yR P s).2).2)
 | false=>(⟨m,false,0,(zN P s).1⟩,(zN P s).2)
abbrev vO(w:World)(R g cap:Nat)(P:List PT)(s:St):Prop:=yK w R g cap P s.1 s.2
def zc(R g cap:Nat)(P:List PT):Prop:=∀(w:World) (s:St) (t:Bs),vO w R g cap P s ->
    Calls Tryz.prog 148 #[.pointer (some ⟨R,0,none⟩),.string ⟨t.toArray⟩] w fun e w'=>e=.returned (.bool (zC P t s).1)/\vO w' R g cap P (zC P t s).2/\zB w.heap.size R w w'
theorem vM(R g cap:Nat)(P:List PT):zc R g cap P:=fun w s t h=>C0 w R g cap P s.1 s.2 h t
def GE(R g cap:Nat)(P:List PT):Prop:=∀(w:World) (s:St) (t:Bs),vO w R g cap P s ->
    Calls Tryz.prog 152 #[.pointer (some ⟨R,0,none⟩),.string ⟨t.toArray⟩] w fun e w'=>e=.returned (.tuple #[])/\vO w' R g cap P (zY P t s)/\zB w.heap.size R w w'
theorem gX(R g cap:Nat)(P:List PT):GE R g cap P:=fun w s t h=>ji w R g cap P s.1 s.2 h t
def yu(R g cap:Nat)(P:List PT):Prop:=∀(w:World) (s:St),vO w R g cap P s ->
    Calls Tryz.prog 211 #[.pointer (some ⟨R,0,none⟩)] w fun e w'=>e=.returned (.string ⟨(zN P s).1.toArray⟩)/\vO w' R g cap P (zN P s).2/\zB w.heap.size R w w'
theorem bL(R g cap:Nat)(P:List PT):yu R g cap P:=fun w s h=>zAM w R g cap P s.1 s.2 h
def Bb(R g cap:Nat)(P:List PT):Prop:=∀(w:World) (s:St),vO w R g cap P s ->
    Calls Tryz.prog 212 #[.pointer (some ⟨R,0,none⟩)] w fun e w'=>e=.returned (.int .i64 (yR P s).1)/\vO w' R g cap P (yR P s).2/\zB w.heap.size R w w'
theorem sK(R g cap:Nat)(P:List PT):Bb R g cap P:=fun w s h=>DO w R g cap P s.1 s.2 h
def yt(R g cap:Nat)(P:List PT):Prop:=∀(w:World) (s:St) (kd:Int),vO w R g cap P s ->
    Calls Tryz.prog 101 #[.pointer (some ⟨R,0,none⟩),.int .i64 kd] w fun e w'=>e=.returned (.bool ((yO P s.1).k==kd))/\vO w' R g cap P s/\zB w.heap.size R w w'
theorem iH(R g cap:Nat)(P:List PT):yt R g cap P:=fun w s kd h=>zAJ w R g cap P s.1 s.2 h kd
section
variable {w:World} {R g cap:Nat} {P:List PT} {s:St}
theorem yK.alloc(h:vO w R g cap P s)(o:Obj):vO (w.alloc o) R g cap P s :=
 h.keeps (bN h.rlt h.blk) ((zB.refl _ _ _).alloc (Nat.le_refl _) _) h.at'
theorem yK.drew(h:vO w R g cap P s):vO w.drew R g cap P s:=h.keeps h.blk (zB.refl _ _ _).drew h.at'
theorem yK.setCell(h:vO w R g cap P s){p:Addr}(hr:p.block≠R)(hg:p.block≠g)(u:Value):vO (w.setCell p u) R g cap P s:=by
 refine⟨?_,?_,h.gR,by rw[zR];exact h.glt,h.at',h.cap1,h.cap2,h.many,h.endk⟩
 ·rw[Below.heap_setCell _ _ _ _ (Ne.symm hr)];exact h.blk
 ·intro i hi
  have hb:∀o,(w.setCell p u).cell? ⟨g,o,none⟩=w.cell? ⟨g,o,none⟩:=fun o=>World.cell?_of_block (w:=w) (Below.heap_setCell _ _ _ _ (Ne.symm hg));rw[hb,hb,hb,hb];exact h.tok i hi
end
theorem yK.set{w:World}{R g cap:Nat}{P:List PT}{s:St}{b o:Nat}{u:Value}(h:vO w R g cap P s)(hr:b≠R)(hg:b≠g):vO (w.setCell ⟨b,o,none⟩ u) R g cap P s:=yK.setCell h (p:=⟨b,o,none⟩) hr hg u
theorem zB.set{w w':World}{R b o:Nat}{u:Value}(h:zB w.heap.size R w w')(hb:w.heap.size<=b):zB w.heap.size R w (w'.setCell ⟨b,o,none⟩ u):=zB.setCell h (p:=⟨b,o,none⟩) (.inl hb) u
theorem zB.new{w w':World}{R:Nat}{x:Obj}(h:zB w.heap.size R w w'):zB w.heap.size R w (w'.alloc x):=zB.alloc h h.size x
theorem zB.step{w W w1:World}{R:Nat}(h:zB w.heap.size R w W)(k:zB W.heap.size R W w1):zB w.heap.size R w w1:=h.trans (k.mono h.size)
def sD(x:xC):Value:=.agg #[.bool x.minus,.bool x.starred,.int .i64 x.num,.string ⟨x.name.toArray⟩]
theorem zDM(w:World)(R g cap:Nat)(P:List PT)(m:Bool)(s:St)(h:vO w R g cap P s) :
 Calls Tryz.prog 247 #[.pointer (some ⟨R,0,none⟩),.bool m] w fun e w'=>e=.returned (sD (qC P m s).1)/\vO w' R g cap P (qC P m s).2/\zB w.heap.size R w w':=by
 have hR:=h.rlt;have hg:=h.glt;have n0:w.heap.size≠R:=by omega
 have n1:w.heap.size+1≠R:=by omega
 have m0:w.heap.size≠g:=by omega
 have m1:w.heap.size+1≠g:=by omega
 have HC0:=zA h;clear h;cases hb:isNum P s
 ·have HP:Hid (qC P m s=(⟨m,false,0,(zN P s).1⟩,(zN P s).2)):=by unfold Hid qC;rw[hb]
  have HN:=zA hb;clear hb
  go_enter Tryz.func247,Tryz.ntmps247
  go_wp2_with fail
  refine(iH R g cap P _ s 3 (by repeat (with_reducible first|exact HC0.out|refine yK.alloc ?_ _|refine yK.drew ?_|refine yK.set ?_ (by first|exact n0|exact n1) (by first|exact m0|exact m1)))).mono ?_;rintro e w1 ⟨rfl,hc1,hk1⟩;rw[show ((yO P s.1).k==3)=false from HN.out];have HC1:=zA hc1;have HT1:Hid (zB w.heap.size R w w1):=zB.step (by repeat (with_reducible first|exact zB.refl _ _ _|refine zB.new ?_|refine zB.drew ?_|refine zB.set ?_ (by first|exact Nat.le_refl _|exact Nat.le_add_right _ _))) hk1;have q1_0:=fun o=>hk1.cell (p:=⟨w.heap.size,o,none⟩) (by simp;try omega) n0;have r1_0:=fun o=>hk1.frozen (p:=⟨w.heap.size,o,none⟩) (by simp;try omega) n0;have z1_0:w.heap.size<w1.heap.size:=Nat.lt_of_lt_of_le (by simp;try omega) hk1.size;have q1_1:=fun o=>hk1.cell (p:=⟨w.heap.size+1,o,none⟩) (by simp;try omega) n1;have r1_1:=fun o=>hk1.frozen (p:=⟨w.heap.size+1,o,none⟩) (by simp;try omega) n1;have z1_1:w.heap.size+1<w1.heap.size:=Nat.lt_of_lt_of_le (by simp;try omega) hk1.size;clear hc1 hk1;go_wp2_with fail
  refine(bL R g cap P _ s (by repeat (with_reducible first|exact HC1.out|refine yK.alloc ?_ _|refine yK.drew ?_|refine yK.set ?_ (by first|exact n0|exact n1) (by first|exact m0|exact m1)))).mono ?_;rintro e w2 ⟨rfl,hc2,hk2⟩;have HC2:=zA hc2;have HT2:Hid (zB w.heap.size R w w2):=zB.step (by repeat (with_reducible first|exact HT1.out|refine zB.new ?_|refine zB.drew ?_|refine zB.set ?_ (by first|exact Nat.le_refl _|exact Nat.le_add_right _ _))) hk2;have q2_0:=fun o=>hk2.cell (p:=⟨w.heap.size,o,none⟩) (by first|exact z1_0|(simp only[zR];exact z1_0)) n0;have r2_0:=fun o=>hk2.frozen (p:=⟨w.heap.size,o,none⟩) (by first|exact z1_0|(simp only[zR];exact z1_0)) n0;have z2_0:w.heap.size<w2.heap.size:=Nat.lt_of_lt_of_le (by first|exact z1_0|(simp only[zR];exact z1_0)) hk2.size;have q2_1:=fun o=>hk2.cell (p:=⟨w.heap.size+1,o,none⟩) (by first|exact z1_1|(simp only[zR];exact z1_1)) n1;have r2_1:=fun o=>hk2.frozen (p:=⟨w.heap.size+1,o,none⟩) (by first|exact z1_1|(simp only[zR];exact z1_1)) n1;have z2_1:w.heap.size+1<w2.heap.size:=Nat.lt_of_lt_of_le (by first|exact z1_1|(simp only[zR];exact z1_1)) hk2.size;clear hc2 hk2;go_wp2_with fail
  refine bodyPost_ret (v:=sD ⟨m,false,0,(zN P s).1⟩) (by simp[results,Tryz.results247,go_sem,sD,q1_0,q2_0]) rfl ⟨by rw[HP.out],by rw[HP.out];exact(by repeat (with_reducible first|exact HC2.out|refine yK.alloc ?_ _|refine yK.drew ?_|refine yK.set ?_ (by first|exact n0|exact n1) (by first|exact m0|exact m1))),(by repeat (with_reducible first|exact HT2.out|refine zB.new ?_|refine zB.drew ?_|refine zB.set ?_ (by first|exact Nat.le_refl _|exact Nat.le_add_right _ _)))⟩
 ·have HN:=zA hb
  cases hs:(zC P [42] (yR P s).2).1
  ·have HP:Hid (qC P m s=(⟨m,false,(yR P s).1,[]⟩,(zC P [42] (yR P s).2).2)):=by unfold Hid qC;rw[hb];simp only[hs]
   have HS:=zA hs;clear hb hs
   go_enter Tryz.func247,Tryz.ntmps247
   go_wp2_with fail
   refine(iH R g cap P _ s 3 (by repeat (with_reducible first|exact HC0.out|refine yK.alloc ?_ _|refine yK.drew ?_|refine yK.set ?_ (by first|exact n0|exact n1) (by first|exact m0|exact m1)))).mono ?_;rintro e w1 ⟨rfl,hc1,hk1⟩;rw[show ((yO P s.1).k==3)=true from HN.out];have HC1:=zA hc1;have HT1:Hid (zB w.heap.size R w w1):=zB.step (by repeat (with_reducible first|exact zB.refl _ _ _|refine zB.new ?_|refine zB.drew ?_|refine zB.set ?_ (by first|exact Nat.le_refl _|exact Nat.le_add_right _ _))) hk1;have q1_0:=fun o=>hk1.cell (p:=⟨w.heap.size,o,none⟩) (by simp;try omega) n0;have r1_0:=fun o=>hk1.frozen (p:=⟨w.heap.size,o,none⟩) (by simp;try omega) n0;have z1_0:w.heap.size<w1.heap.size:=Nat.lt_of_lt_of_le (by simp;try omega) hk1.size;have q1_1:=fun o=>hk1.cell (p:=⟨w.heap.size+1,o,none⟩) (by simp;try omega) n1;have r1_1:=fun o=>hk1.frozen (p:=⟨w.heap.size+1,o,none⟩) (by simp;try omega) n1;have z1_1:w.heap.size+1<w1.heap.size:=Nat.lt_of_lt_of_le (by simp;try omega) hk1.size;clear hc1 hk1;go_wp2_with fail
   refine(sK R g cap P _ s (by repeat (with_reducible first|exact HC1.out|refine yK.alloc ?_ _|refine yK.drew ?_|refine yK.set ?_ (by first|exact n0|exact n1) (by first|exact m0|exact m1)))).mono ?_;rintro e w2 ⟨rfl,hc2,hk2⟩;have HC2:=zA hc2;have HT2:Hid (zB w.heap.size R w w2):=zB.step (by repeat (with_reducible first|exact HT1.out|refine zB.new ?_|refine zB.drew ?_|refine zB.set ?_ (by first|exact Nat.le_refl _|exact Nat.le_add_right _ _))) hk2;have q2_0:=fun o=>hk2.cell (p:=⟨w.heap.size,o,none⟩) (by first|exact z1_0|(simp only[zR];exact z1_0)) n0;have r2_0:=fun o=>hk2.frozen (p:=⟨w.heap.size,o,none⟩) (by first|exact z1_0|(simp only[zR];exact z1_0)) n0;have z2_0:w.heap.size<w2.heap.size:=Nat.lt_of_lt_of_le (by first|exact z1_0|(simp only[zR];exact z1_0)) hk2.size;have q2_1:=fun o=>hk2.cell (p:=⟨w.heap.size+1,o,none⟩) (by first|exact z1_1|(simp only[zR];exact z1_1)) n1;have r2_1:=fun o=>hk2.frozen (p:=⟨w.heap.size+1,o,none⟩) (by first|exact z1_1|(simp only[zR];exact z1_1)) n1;have z2_1:w.heap.size+1<w2.heap.size:=Nat.lt_of_lt_of_le (by first|exact z1_1|(simp only[zR];exact z1_1)) hk2.size;clear hc2 hk2;go_wp2_with fail
   refine(vM R g cap P _ (yR P s).2 [42] (by repeat (with_reducible first|exact HC2.out|refine yK.alloc ?_ _|refine yK.drew ?_|refine yK.set ?_ (by first|exact n0|exact n1) (by first|exact m0|exact m1)))).mono ?_;rintro e w3 ⟨rfl,hc3,hk3⟩;rw[HS.out];have HC3:=zA hc3;have HT3:Hid (zB w.heap.size R w w3):=zB.step (by repeat (with_reducible first|exact HT2.out|refine zB.new ?_|refine zB.drew ?_|refine zB.set ?_ (by first|exact Nat.le_refl _|exact Nat.le_add_right _ _))) hk3;have q3_0:=fun o=>hk3.cell (p:=⟨w.heap.size,o,none⟩) (by first|exact z2_0|(simp only[zR];exact z2_0)) n0;have r3_0:=fun o=>hk3.frozen (p:=⟨w.heap.size,o,none⟩) (by first|exact z2_0|(simp only[zR];exact z2_0)) n0;have z3_0:w.heap.size<w3.heap.size:=Nat.lt_of_lt_of_le (by first|exact z2_0|(simp only[zR];exact z2_0)) hk3.size;have q3_1:=fun o=>hk3.cell (p:=⟨w.heap.size+1,o,none⟩) (by first|exact z2_1|(simp only[zR];exact z2_1)) n1;have r3_1:=fun o=>hk3.frozen (p:=⟨w.heap.size+1,o,none⟩) (by first|exact z2_1|(simp only[zR];exact z2_1)) n1;have z3_1:w.heap.size+1<w3.heap.size:=Nat.lt_of_lt_of_le (by first|exact z2_1|(simp only[zR];exact z2_1)) hk3.size;clear hc3 hk3;go_wp2_with fail
   refine bodyPost_ret (v:=sD ⟨m,false,(yR P s).1,[]⟩) (by simp[results,Tryz.results247,go_sem,sD,q1_0,q2_0,q3_0]) rfl ⟨by rw[HP.out],by rw[HP.out];exact(by repeat (with_reducible first|exact HC3.out|refine yK.alloc ?_ _|refine yK.drew ?_|refine yK.set ?_ (by first|exact n0|exact n1) (by first|exact m0|exact m1))),(by repeat (with_reducible first|exact HT3.out|refine zB.new ?_|refine zB.drew ?_|refine zB.set ?_ (by first|exact Nat.le_refl _|exact Nat.le_add_right _ _)))⟩
  ·have HP:Hid (qC P m s=(⟨m,true,(yR P s).1,(zN P (zC P [42] (yR P s).2).2).1⟩,(zN P (zC P [42] (yR P s).2).2).2)):=by unfold Hid qC;rw[hb];simp only[hs]
   have HS:=zA hs;clear hb hs
   go_enter Tryz.func247,Tryz.ntmps247
   go_wp2_with fail
   refine(iH R g cap P _ s 3 (by repeat (with_reducible first|exact HC0.out|refine yK.alloc ?_ _|refine yK.drew ?_|refine yK.set ?_ (by first|exact n0|exact n1) (by first|exact m0|exact m1)))).mono ?_;rintro e w1 ⟨rfl,hc1,hk1⟩;rw[show ((yO P s.1).k==3)=true from HN.out];have HC1:=zA hc1;have HT1:Hid (zB w.heap.size R w w1):=zB.step (by repeat (with_reducible first|exact zB.refl _ _ _|refine zB.new ?_|refine zB.drew ?_|refine zB.set ?_ (by first|exact Nat.le_refl _|exact Nat.le_add_right _ _))) hk1;have q1_0:=fun o=>hk1.cell (p:=⟨w.heap.size,o,none⟩) (by simp;try omega) n0;have r1_0:=fun o=>hk1.frozen (p:=⟨w.heap.size,o,none⟩) (by simp;try omega) n0;have z1_0:w.heap.size<w1.heap.size:=Nat.lt_of_lt_of_le (by simp;try omega) hk1.size;have q1_1:=fun o=>hk1.cell (p:=⟨w.heap.size+1,o,none⟩) (by simp;try omega) n1;have r1_1:=fun o=>hk1.frozen (p:=⟨w.heap.size+1,o,none⟩) (by simp;try omega) n1;have z1_1:w.heap.size+1<w1.heap.size:=Nat.lt_of_lt_of_le (by simp;try omega) hk1.size;clear hc1 hk1;go_wp2_with fail
   refine(sK R g cap P _ s (by repeat (with_reducible first|exact HC1.out|refine yK.alloc ?_ _|refine yK.drew ?_|refine yK.set ?_ (by first|exact n0|exact n1) (by first|exact m0|exact m1)))).mono ?_;rintro e w2 ⟨rfl,hc2,hk2⟩;have HC2:=zA hc2;have HT2:Hid (zB w.heap.size R w w2):=zB.step (by repeat (with_reducible first|exact HT1.out|refine zB.new ?_|refine zB.drew ?_|refine zB.set ?_ (by first|exact Nat.le_refl _|exact Nat.le_add_right _ _))) hk2;have q2_0:=fun o=>hk2.cell (p:=⟨w.heap.size,o,none⟩) (by first|exact z1_0|(simp only[zR];exact z1_0)) n0;have r2_0:=fun o=>hk2.frozen (p:=⟨w.heap.size,o,none⟩) (by first|exact z1_0|(simp only[zR];exact z1_0)) n0;have z2_0:w.heap.size<w2.heap.size:=Nat.lt_of_lt_of_le (by first|exact z1_0|(simp only[zR];exact z1_0)) hk2.size;have q2_1:=fun o=>hk2.cell (p:=⟨w.heap.size+1,o,none⟩) (by first|exact z1_1|(simp only[zR];exact z1_1)) n1;have r2_1:=fun o=>hk2.frozen (p:=⟨w.heap.size+1,o,none⟩) (by first|exact z1_1|(simp only[zR];exact z1_1)) n1;have z2_1:w.heap.size+1<w2.heap.size:=Nat.lt_of_lt_of_le (by first|exact z1_1|(simp only[zR];exact z1_1)) hk2.size;clear hc2 hk2;go_wp2_with fail
   refine(vM R g cap P _ (yR P s).2 [42] (by repeat (with_reducible first|exact HC2.out|refine yK.alloc ?_ _|refine yK.drew ?_|refine yK.set ?_ (by first|exact n0|exact n1) (by first|exact m0|exact m1)))).mono ?_;rintro e w3 ⟨rfl,hc3,hk3⟩;rw[HS.out];have HC3:=zA hc3;have HT3:Hid (zB w.heap.size R w w3):=zB.step (by repeat (with_reducible first|exact HT2.out|refine zB.new ?_|refine zB.drew ?_|refine zB.set ?_ (by first|exact Nat.le_refl _|exact Nat.le_add_right _ _))) hk3;have q3_0:=fun o=>hk3.cell (p:=⟨w.heap.size,o,none⟩) (by first|exact z2_0|(simp only[zR];exact z2_0)) n0;have r3_0:=fun o=>hk3.frozen (p:=⟨w.heap.size,o,none⟩) (by first|exact z2_0|(simp only[zR];exact z2_0)) n0;have z3_0:w.heap.size<w3.heap.size:=Nat.lt_of_lt_of_le (by first|exact z2_0|(simp only[zR];exact z2_0)) hk3.size;have q3_1:=fun o=>hk3.cell (p:=⟨w.heap.size+1,o,none⟩) (by first|exact z2_1|(simp only[zR];exact z2_1)) n1;have r3_1:=fun o=>hk3.frozen (p:=⟨w.heap.size+1,o,none⟩) (by first|exact z2_1|(simp only[zR];exact z2_1)) n1;have z3_1:w.heap.size+1<w3.heap.size:=Nat.lt_of_lt_of_le (by first|exact z2_1|(simp only[zR];exact z2_1)) hk3.size;clear hc3 hk3;go_wp2_with fail
   refine(bL R g cap P _ (zC P [42] (yR P s).2).2 (by repeat (with_reducible first|exact HC3.out|refine yK.alloc ?_ _|refine yK.drew ?_|refine yK.set ?_ (by first|exact n0|exact n1) (by first|exact m0|exact m1)))).mono ?_;rintro e w4 ⟨rfl,hc4,hk4⟩;have HC4:=zA hc4;have HT4:Hid (zB w.heap.size R w w4):=zB.step (by repeat (with_reducible first|exact HT3.out|refine zB.new ?_|refine zB.drew ?_|refine zB.set ?_ (by first|exact Nat.le_refl _|exact Nat.le_add_right _ _))) hk4;have q4_0:=fun o=>hk4.cell (p:=⟨w.heap.size,o,none⟩) (by first|exact z3_0|(simp only[zR];exact z3_0)) n0;have r4_0:=fun o=>hk4.frozen (p:=⟨w.heap.size,o,none⟩) (by first|exact z3_0|(simp only[zR];exact z3_0)) n0;have z4_0:w.heap.size<w4.heap.size:=Nat.lt_of_lt_of_le (by first|exact z3_0|(simp only[zR];exact z3_0)) hk4.size;have q4_1:=fun o=>hk4.cell (p:=⟨w.heap.size+1,o,none⟩) (by first|exact z3_1|(simp only[zR];exact z3_1)) n1;have r4_1:=fun o=>hk4.frozen (p:=⟨w.heap.size+1,o,none⟩) (by first|exact z3_1|(simp only[zR];exact z3_1)) n1;have z4_1:w.heap.size+1<w4.heap.size:=Nat.lt_of_lt_of_le (by first|exact z3_1|(simp only[zR];exact z3_1)) hk4.size;clear hc4 hk4;go_wp2_with fail
   refine bodyPost_ret (v:=sD ⟨m,true,(yR P s).1,(zN P (zC P [42] (yR P s).2).2).1⟩) (by simp[results,Tryz.results247,go_sem,sD,q1_0,q2_0,q3_0,q4_0]) rfl ⟨by rw[HP.out],by rw[HP.out];exact(by repeat (with_reducible first|exact HC4.out|refine yK.alloc ?_ _|refine yK.drew ?_|refine yK.set ?_ (by first|exact n0|exact n1) (by first|exact m0|exact m1))),(by repeat (with_reducible first|exact HT4.out|refine zB.new ?_|refine zB.drew ?_|refine zB.set ?_ (by first|exact Nat.le_refl _|exact Nat.le_add_right _ _)))⟩
def dE(P:List PT):Nat->Bool->St->List xC->List xC × St
 | 0,_,s,ps=>(ps,s)
 | n+1,m,s,ps =>
   match (zC P [45] (qC P m s).2).1 with
   | true=>dE P n true (zC P [45] (qC P m s).2).2 (ps++[(qC P m s).1])
   | false =>
     match (zC P [43] (zC P [45] (qC P m s).2).2).1 with
     | true=>dE P n false (zC P [43] (zC P [45] (qC P m s).2).2).2 (ps++[(qC P m s).1])
     | false=>(ps++[(qC P m s).1],(zC P [43] (zC P [45] (qC P m s).2).2).2)
def tG(P:List PT)(s:St):List xC × St:=dE P P.length false s []
def ZV(x:xC):List Value:=[.bool x.minus,.bool x.starred,.int .i64 x.num,.string ⟨x.name.toArray⟩]
def cM(ps:List xC):List Value:=ps.flatMap ZV
theorem BH(ps:List xC)(x:xC):cM (ps++[x])=cM ps++ZV x:=by simp[cM]
theorem fN(b:Bool)(a:Nat):a<=Jj b a:=by cases b <;> simp[Jj]
theorem Xe(P:List PT)(m:Bool)(s:St):s.1<=(qC P m s).2.1:=by
 have h1:=fN (qW P 3 s.1 s.2) s.1;have h2:=fN (qW P 2 s.1 s.2) s.1;unfold qC;split
 ·have h3:=fN (bD P [42] (yR P s).2.1 (yR P s).2.2) (yR P s).2.1
  split
  ·have h4:=fN (qW P 2 (zC P [42] (yR P s).2).2.1 (zC P [42] (yR P s).2).2.2) (zC P [42] (yR P s).2).2.1
   simp only[zN,zC,yR]at h3 h4 ⊢;omega
  ·simp only[zC,yR]at h3 ⊢;omega
 ·exact h2
theorem qL{P:List PT}{t:Bs}{s:St}(h:(zC P t s).1=true):(zC P t s).2.1=s.1+1:=by
 simp only[zC]at h ⊢;rw[h];rfl
theorem xW(P:List PT)(t:Bs)(s:St):s.1<=(zC P t s).2.1:=fN _ _
theorem uL{w w':World}{B R:Nat}{e:TypeId}{size:Nat}{v:Value}{n:Nat}{xs:List Value}(h:w.ownsRow B e size v n xs)(hb:zB w.heap.size R w w')(hR:R<B):w'.ownsRow B e size v n xs:=by
 refine⟨h.1,?_⟩;rcases h.2 with h1|⟨g,cap,yO,h1,h2,h3,r⟩
 ·exact .inl h1
 ·refine .inr ⟨g,cap,yO,h1,h2,?_,r⟩
  have hg:g<w.heap.size:=by
   rcases Nat.lt_or_ge g w.heap.size with h|h
   ·exact h
   ·rw[Array.getElem?_eq_none h]at h3;cases h3
  rw[hb.block g hg (by omega)];exact h3
theorem zK{w:World}{a:Addr}{v:Value}{k:Nat}(h:k<w.heap.size):k<(w.setCell a v).heap.size:=by rw[zR];exact h
theorem zL{w:World}{o:Obj}{k:Nat}(h:k<w.heap.size):k<(w.alloc o).heap.size:=by simp;omega
theorem zD(w:World)(o:Obj):w.heap.size<(w.alloc o).heap.size:=by simp
theorem zG{w:World}{k:Nat}(h:k<w.heap.size):k<w.drew.heap.size:=h
theorem uf:(Tryz.prog.info? 301).map (fun i=>(i.zero,i.size,i.bytes))=some (some (.agg #[.bool false,.bool false,.int .i64 0,.string ⟨#[]⟩]),4,32):=by kernel_rfl
theorem yK.grown{w w':World}{R g cap:Nat}{P:List PT}{s:St}{row:Option Nat}(h:vO w R g cap P s)(hg:w.grownBy w' row)(h1:row≠some R)(h2:row≠some g):vO w' R g cap P s:=by
 refine⟨?_,?_,h.gR,Nat.lt_of_lt_of_le h.glt hg.size,h.at',h.cap1,h.cap2,h.many,h.endk⟩
 ·rw[hg.block R h.rlt (Ne.symm h1)];exact h.blk
 ·intro i hi
  have hb:∀o,w'.cell? ⟨g,o,none⟩=w.cell? ⟨g,o,none⟩:=fun o=>World.cell?_of_block (w:=w) (hg.block g h.glt (Ne.symm h2));rw[hb,hb,hb,hb];exact h.tok i hi
theorem zB.grown{B R:Nat}{a w w':World}{row:Option Nat}(h:zB B R a w)(hg:w.grownBy w' row)(hB:B<=w.heap.size)(hr:∀k,row=some k->B<=k):zB B R a w' :=
 h.trans ⟨hg.os,hg.tape,hg.output,hg.size,fun k hk _=>hg.block k (by omega) (fun e=>by have:=hr k e.symm;omega)⟩
def zw(w:World)(R:Nat):Nat:=match w.cell? ⟨R,1,none⟩ with|some v=>(intOf v).toNat|none=>0
def wC(L R:Nat)(ov:Value)(w:World):Nat:=match ov with | .bool true=>L-zw w R|_=>0
theorem yK.rdAt{w:World}{R g cap:Nat}{P:List PT}{s:St}(h:vO w R g cap P s):zw w R=s.1:=by
 unfold zw;rw[h.cells.2.1];simp[intOf]
theorem yK.meas{w:World}{R g cap:Nat}{P:List PT}{s:St}(h:vO w R g cap P s):wC P.length R (.bool true) w=P.length-s.1:=by
 simp only[wC];rw[yK.rdAt h]
theorem zFG(w:World)(R g cap:Nat)(P:List PT)(s0:St)(h:vO w R g cap P s0) :
 Calls Tryz.prog 213 #[.pointer (some ⟨R,0,none⟩)] w fun e w'=>∃v,e=.returned v/\w'.ownsRow w.heap.size 301 4 v (tG P s0).1.length (cM (tG P s0).1)/\vO w' R g cap P (tG P s0).2/\zB w.heap.size R w w':=by
 obtain⟨i0,hi0,hz0,hz1,hz2⟩:=info_parts uf;have hR:=h.rlt;have hg:=h.glt;have hmany:=h.many;have hat:=h.at';have HC:=zA h;obtain⟨B,hB⟩:∃B,B=w.heap.size:=⟨_,rfl⟩;have HB:Hid (B=w.heap.size):=hB;rw[<-hB];have hRB:R<B:=by omega
 have hgB:g<B:=by omega
 have HF:Hid (tG P s0=dE P P.length false s0 []):=rfl;generalize tG P s0=F at *;clear h hB hR hg
 go_enter Tryz.func213,Tryz.ntmps213
 go_wp2_with fail
 have h0:(w.alloc (.cells #[] 301)).ownsRow B 301 4 (.slice (some ⟨w.heap.size,0,none⟩) 0 0) 0 (cM []) :=
  ⟨rfl,.inr ⟨w.heap.size,0,#[],rfl,by rw[HB.out];exact Nat.le_refl _,heap_alloc_new w _,Nat.le_refl _,by simp[maxLen],rfl,rfl⟩⟩
 have H0:=zA h0;clear h0
 go_loopw [3,4,5] (fun pv mv ov wr=>∃(n:Nat) (s:St) (ps:List xC) (m o:Bool),mv=.bool m/\ov=.bool o/\wr.ownsRow B 301 4 pv ps.length (cM ps)/\Hid (vO wr R g cap P s)/\Hid (zB w.heap.size R w wr)/\Hid ((o=true->ps.length<=s.1/\P.length-s.1<=n/\dE P n m s ps=F)/\(o=false->(ps,s)=F))) (fun _ _ ov wr=>wC P.length R ov wr)
 case atStart=>exact⟨P.length,s0,[],false,true,rfl,rfl,H0.out,zA (yK.alloc HC.out _),zA (zB.new (zB.refl _ _ _)),zA ⟨fun _=>⟨Nat.zero_le _,by omega,HF.out.symm⟩,fun h=>by cases h⟩⟩
 case round =>
  obtain⟨n,s,ps,m,o,rfl,rfl,zG0,HCr,HKr,HH⟩:=hrel;clear H0 HF
  cases o with
  | false =>
    have HE:=zA (HH.out.2 rfl);clear HH;go_wp2_with fail
    go_ret
    obtain rfl:=HE.out;exact⟨_,rfl,zG0,HCr.out,by rw[HB.out];exact HKr.out⟩
  | true =>
    obtain⟨hps,hn,hE⟩:=HH.out.1 rfl;have hat:=HCr.out.at';have HM:Hid (wC P.length R (.bool true) wr=P.length-s.1):=HCr.out.meas;obtain⟨n,rfl⟩:∃k,n=k+1:=⟨n-1,by omega⟩;have hpm:=Xe P m s;have HPart:=zA (zDM wr R g cap P m s HCr.out);rw[dE]at hE;have HE:=zA hE;clear HH hE;have hBr:B<=wr.heap.size:=by have h1:=HKr.out.size;have h2:=HB.out;omega
    go_wp2_with fail
    refine HPart.out.mono ?_;rintro e w1 ⟨rfl,hc1,hk1⟩;have zG1:=uL zG0 hk1 hRB;have HK1:Hid (zB w.heap.size R w w1):=HKr.out.step hk1;have HC1:=zA hc1;have hB1:B<=w1.heap.size:=Nat.le_trans hBr hk1.size;have HOB:=zA (xZ zG1);have hpc:∀x:xC,ZV x=[.bool x.minus,.bool x.starred,.int .i64 x.num,.string ⟨x.name.toArray⟩]:=fun _=>rfl;generalize hx:qC P m s=px at *;obtain⟨x,s1⟩:=px;simp only at hpm HC1 HE;obtain⟨xm,xs,xn,xnm⟩:=x;simp only[sD];have HX:=zA hx;clear hx hc1 hk1 zG0 HPart HCr HKr hpc
    go_wp2_with (at_builtin;refine wpList_append_own _ rfl _ _ 229 rfl B 301 i0 _ 4 32 Tryz.underlying229 hi0 hz0 hz1 hz2 rfl (by decide) _ _ _ rfl ((zG1.alloc _).alloc _) ⟨w1.heap.size+1,0,none⟩ 1 1 (ZV ⟨xm,xs,xn,xnm⟩) rfl rfl ?c1 ?c2 ?c3 ?c4 ?c5 ?_)
    case c1=>exact uH _ _ _ _ rfl (by simp)
    case c2=>intro u hu;simp[ZV]at hu;rcases hu with rfl|rfl|rfl|rfl <;> rfl
    case c3=>unfold maxLen;omega
    case c4=>omega
    case c5=>simp;omega
    intro v' w2 zG2 zFZ _
    have hc2:vO w2 R g cap P s1:=yK.grown (yK.alloc (yK.alloc HC1.out _) _) zFZ
     (fun e=>by have h1:=(HOB.out R e).1;omega) (fun e=>by have h1:=(HOB.out g e).1;omega)
    have HC2:=zA hc2;have HK2:Hid (zB w.heap.size R w w2):=zB.grown (zB.new (zB.new HK1.out)) zFZ (by simp;have h1:=HB.out;omega) (fun k hk=>by have h1:=(HOB.out k hk).1;have h2:=HB.out;omega);have hown2':w2.ownsRow B 301 4 v' (ps++[xC.mk xm xs xn xnm]).length (cM (ps++[xC.mk xm xs xn xnm])):=by rw[BH,List.length_append];exact zG2
    have hB2:B<=w2.heap.size:=by have h1:=HK2.out.size;have h2:=HB.out;omega
    clear zG1 zG2 zFZ HOB HC1 HK1 hc2;go_wp2_with fail
    refine(vM R g cap P _ s1 [45] HC2.out).mono ?_;rintro e w3 ⟨rfl,hc3,hk3⟩;have zG9:=uL hown2' hk3 hRB;have HK3:Hid (zB w.heap.size R w w3):=HK2.out.step hk3;have HC3:=zA hc3;clear hown2' hk3 hc3 HK2 HC2;cases hs1:(zC P [45] s1).1
    ·have hE2:=HE.out
     simp only[hs1]at hE2;have HE2:=zA hE2;clear hE2 HE;generalize hy:(zC P [45] s1).2=s2 at *;have hmono:s1.1<=s2.1:=by rw[<-hy];exact xW P [45] s1
     clear hs1 hy;go_wp2_with fail
     refine(vM R g cap P _ s2 [43] HC3.out).mono ?_;rintro e w4 ⟨rfl,hc4,hk4⟩;have zGO:=uL zG9 hk4 hRB;have HK4:Hid (zB w.heap.size R w w4):=HK3.out.step hk4;have HC4:=zA hc4;clear zG9 hk4 hc4 HK3 HC3;cases hs2:(zC P [43] s2).1
     ·have hE2:=HE2.out
      simp only[hs2]at hE2;have HE3:=zA hE2;clear hE2 HE2 hs2;go_wp2_with fail
      go_roundw
      case rel=>exact⟨0,_,_,false,false,rfl,rfl,zGO,HC4,HK4,zA ⟨(fun h=>by cases h),fun _=>HE3.out⟩⟩
      case measure=>rw[HM.out];simp only[wC];omega
     ·have hE2:=HE2.out
      simp only[hs2]at hE2;have HE3:=zA hE2;have zGD:=qL hs2;clear hE2 HE2 hs2;have hat4:=HC4.out.at';go_wp2_with fail
      go_roundw
      case rel=>exact⟨n,_,_,false,true,rfl,rfl,zGO,HC4,HK4,zA ⟨fun _=>⟨by rw[List.length_append,zGD];simp only[List.length_cons,List.length_nil];omega,by rw[zGD];omega,HE3.out⟩,fun h=>by cases h⟩⟩
      case measure=>rw[HM.out,yK.meas HC4.out,zGD];omega
    ·have hE2:=HE.out
     simp only[hs1]at hE2;have HE3:=zA hE2;have zGD:=qL hs1;clear hE2 HE hs1;have hat3:=HC3.out.at';go_wp2_with fail
     go_roundw
     case rel=>exact⟨n,_,_,true,true,rfl,rfl,zG9,HC3,HK3,zA ⟨fun _=>⟨by rw[List.length_append,zGD];simp only[List.length_cons,List.length_nil];omega,by rw[zGD];omega,HE3.out⟩,fun h=>by cases h⟩⟩
     case measure=>rw[HM.out,yK.meas HC3.out,zGD];omega
end Go.Proofs.YtnbpdffdnphbeaaGreatDoor
