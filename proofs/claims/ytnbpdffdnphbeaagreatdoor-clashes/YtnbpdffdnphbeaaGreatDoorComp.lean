import Derived.Test.YtnbpdffdnphbeaaGreatDoorPars
set_option maxHeartbeats 1000000
namespace Go.Proofs.YtnbpdffdnphbeaaGreatDoor
open Go.RowKit
variable{k:Nat}{x:Obj}(w:World)(R g cap:Nat)(P:List PT)(s:St)
def jC:List Bs:=[[60],[60,61],[61],[33,61],[62,61],[62]]
def vV(P:List PT)(s:St):Bs × St :=
 match jC.contains (yW P s.1).s with
 | true=>match (zC P (yW P s.1).s s).1 with
   | true=>((yW P s.1).s,(zC P (yW P s.1).s s).2)
   | false=>([],(zC P (yW P s.1).s s).2)
 | false=>([],s)
theorem oN(h:vK w R g cap P s) :
 Calls Tryz.prog 261 #[.pointer (some ⟨R,0,none⟩)] w fun e w'=>e=.returned (.string ⟨(vV P s).1.toArray⟩)/\vK w' R g cap P (vV P s).2/\zB w.heap.size R w w':=by
 obtain⟨c0,c1,_⟩:=h.cells;obtain⟨_,t1,_,_⟩:=h.tok s.1 h.at';have i1:(0:Int)<=(s.1:Int):=by omega
 have i2:(s.1:Int)<(P.length:Int):=by have:=h.at';omega
 have HC:=zA h;have HP:Hid (vV P s=match jC.contains (yW P s.1).s with|true=>(match (zC P (yW P s.1).s s).1 with|true=>((yW P s.1).s,(zC P (yW P s.1).s s).2)|false=>([],(zC P (yW P s.1).s s).2))|false=>([],s)):=rfl;generalize (yW P s.1).s=x at *;generalize vV P s=F at *;clear h;by_cases c0':x=[60]
 ·subst c0'
  have hP:=HP.out;rw[show jC.contains [60]=true from by decide]at hP;have HP2:=zA hP;clear HP hP
  go_enter Tryz.func261,Tryz.ntmps261
  go_wp2_with fail
  go_region_held3 (fun w'=>w'.cell? ⟨R,0,none⟩=some (.slice (some ⟨g,0,none⟩) P.length cap)/\w'.cell? ⟨R,1,none⟩=some (.int .i64 s.1)/\w'.cell? ⟨g,s.1*4+1,none⟩=some (.string ⟨[60].toArray⟩)) (go_keep) (fail)
  go_wp2_with fail
  refine(vJ R g cap P _ s [60] (yO.drew HC.out)).mono ?_;rintro e w1 ⟨rfl,hc1,hk1⟩;have HC1:=zA hc1;have HK1:Hid (zB w.heap.size R w w1):=zB.step (zB.drew (zB.refl _ _ _)) hk1;clear hc1 hk1;cases hs:(zC P [60] s).1
  ·have hP:=HP2.out
   simp only[hs]at hP;have HP3:=zA hP;clear HP2 hP hs;go_wp2_with fail
   go_ret
   exact⟨yS (by rw[HP3.out]),by rw[HP3.out];exact HC1.out,HK1.out⟩
  ·have hP:=HP2.out
   simp only[hs]at hP;have HP3:=zA hP;clear HP2 hP hs;go_wp2_with fail
   go_ret
   exact⟨yS (by rw[HP3.out]),by rw[HP3.out];exact HC1.out,HK1.out⟩
 by_cases c1':x=[60,61]
 ·subst c1'
  have hP:=HP.out;rw[show jC.contains [60,61]=true from by decide]at hP;have HP2:=zA hP;clear HP hP
  go_enter Tryz.func261,Tryz.ntmps261
  go_wp2_with fail
  go_region_held3 (fun w'=>w'.cell? ⟨R,0,none⟩=some (.slice (some ⟨g,0,none⟩) P.length cap)/\w'.cell? ⟨R,1,none⟩=some (.int .i64 s.1)/\w'.cell? ⟨g,s.1*4+1,none⟩=some (.string ⟨[60,61].toArray⟩)) (go_keep) (fail)
  go_wp2_with fail
  refine(vJ R g cap P _ s [60,61] (yO.drew HC.out)).mono ?_;rintro e w1 ⟨rfl,hc1,hk1⟩;have HC1:=zA hc1;have HK1:Hid (zB w.heap.size R w w1):=zB.step (zB.drew (zB.refl _ _ _)) hk1;clear hc1 hk1;cases hs:(zC P [60,61] s).1
  ·have hP:=HP2.out
   simp only[hs]at hP;have HP3:=zA hP;clear HP2 hP hs;go_wp2_with fail
   go_ret
   exact⟨yS (by rw[HP3.out]),by rw[HP3.out];exact HC1.out,HK1.out⟩
  ·have hP:=HP2.out
   simp only[hs]at hP;have HP3:=zA hP;clear HP2 hP hs;go_wp2_with fail
   go_ret
   exact⟨yS (by rw[HP3.out]),by rw[HP3.out];exact HC1.out,HK1.out⟩
 by_cases c2':x=[61]
 ·subst c2'
  have hP:=HP.out;rw[show jC.contains [61]=true from by decide]at hP;have HP2:=zA hP;clear HP hP
  go_enter Tryz.func261,Tryz.ntmps261
  go_wp2_with fail
  go_region_held3 (fun w'=>w'.cell? ⟨R,0,none⟩=some (.slice (some ⟨g,0,none⟩) P.length cap)/\w'.cell? ⟨R,1,none⟩=some (.int .i64 s.1)/\w'.cell? ⟨g,s.1*4+1,none⟩=some (.string ⟨[61].toArray⟩)) (go_keep) (fail)
  go_wp2_with fail
  refine(vJ R g cap P _ s [61] (yO.drew HC.out)).mono ?_;rintro e w1 ⟨rfl,hc1,hk1⟩;have HC1:=zA hc1;have HK1:Hid (zB w.heap.size R w w1):=zB.step (zB.drew (zB.refl _ _ _)) hk1;clear hc1 hk1;cases hs:(zC P [61] s).1
  ·have hP:=HP2.out
   simp only[hs]at hP;have HP3:=zA hP;clear HP2 hP hs;go_wp2_with fail
   go_ret
   exact⟨yS (by rw[HP3.out]),by rw[HP3.out];exact HC1.out,HK1.out⟩
  ·have hP:=HP2.out
   simp only[hs]at hP;have HP3:=zA hP;clear HP2 hP hs;go_wp2_with fail
   go_ret
   exact⟨yS (by rw[HP3.out]),by rw[HP3.out];exact HC1.out,HK1.out⟩
 by_cases c3':x=[33,61]
 ·subst c3'
  have hP:=HP.out;rw[show jC.contains [33,61]=true from by decide]at hP;have HP2:=zA hP;clear HP hP
  go_enter Tryz.func261,Tryz.ntmps261
  go_wp2_with fail
  go_region_held3 (fun w'=>w'.cell? ⟨R,0,none⟩=some (.slice (some ⟨g,0,none⟩) P.length cap)/\w'.cell? ⟨R,1,none⟩=some (.int .i64 s.1)/\w'.cell? ⟨g,s.1*4+1,none⟩=some (.string ⟨[33,61].toArray⟩)) (go_keep) (fail)
  go_wp2_with fail
  refine(vJ R g cap P _ s [33,61] (yO.drew HC.out)).mono ?_;rintro e w1 ⟨rfl,hc1,hk1⟩;have HC1:=zA hc1;have HK1:Hid (zB w.heap.size R w w1):=zB.step (zB.drew (zB.refl _ _ _)) hk1;clear hc1 hk1;cases hs:(zC P [33,61] s).1
  ·have hP:=HP2.out
   simp only[hs]at hP;have HP3:=zA hP;clear HP2 hP hs;go_wp2_with fail
   go_ret
   exact⟨yS (by rw[HP3.out]),by rw[HP3.out];exact HC1.out,HK1.out⟩
  ·have hP:=HP2.out
   simp only[hs]at hP;have HP3:=zA hP;clear HP2 hP hs;go_wp2_with fail
   go_ret
   exact⟨yS (by rw[HP3.out]),by rw[HP3.out];exact HC1.out,HK1.out⟩
 by_cases c4':x=[62,61]
 ·subst c4'
  have hP:=HP.out;rw[show jC.contains [62,61]=true from by decide]at hP;have HP2:=zA hP;clear HP hP
  go_enter Tryz.func261,Tryz.ntmps261
  go_wp2_with fail
  go_region_held3 (fun w'=>w'.cell? ⟨R,0,none⟩=some (.slice (some ⟨g,0,none⟩) P.length cap)/\w'.cell? ⟨R,1,none⟩=some (.int .i64 s.1)/\w'.cell? ⟨g,s.1*4+1,none⟩=some (.string ⟨[62,61].toArray⟩)) (go_keep) (fail)
  go_wp2_with fail
  refine(vJ R g cap P _ s [62,61] (yO.drew HC.out)).mono ?_;rintro e w1 ⟨rfl,hc1,hk1⟩;have HC1:=zA hc1;have HK1:Hid (zB w.heap.size R w w1):=zB.step (zB.drew (zB.refl _ _ _)) hk1;clear hc1 hk1;cases hs:(zC P [62,61] s).1
  ·have hP:=HP2.out
   simp only[hs]at hP;have HP3:=zA hP;clear HP2 hP hs;go_wp2_with fail
   go_ret
   exact⟨yS (by rw[HP3.out]),by rw[HP3.out];exact HC1.out,HK1.out⟩
  ·have hP:=HP2.out
   simp only[hs]at hP;have HP3:=zA hP;clear HP2 hP hs;go_wp2_with fail
   go_ret
   exact⟨yS (by rw[HP3.out]),by rw[HP3.out];exact HC1.out,HK1.out⟩
 by_cases c5':x=[62]
 ·subst c5'
  have hP:=HP.out;rw[show jC.contains [62]=true from by decide]at hP;have HP2:=zA hP;clear HP hP
  go_enter Tryz.func261,Tryz.ntmps261
  go_wp2_with fail
  go_region_held3 (fun w'=>w'.cell? ⟨R,0,none⟩=some (.slice (some ⟨g,0,none⟩) P.length cap)/\w'.cell? ⟨R,1,none⟩=some (.int .i64 s.1)/\w'.cell? ⟨g,s.1*4+1,none⟩=some (.string ⟨[62].toArray⟩)) (go_keep) (fail)
  go_wp2_with fail
  refine(vJ R g cap P _ s [62] (yO.drew HC.out)).mono ?_;rintro e w1 ⟨rfl,hc1,hk1⟩;have HC1:=zA hc1;have HK1:Hid (zB w.heap.size R w w1):=zB.step (zB.drew (zB.refl _ _ _)) hk1;clear hc1 hk1;cases hs:(zC P [62] s).1
  ·have hP:=HP2.out
   simp only[hs]at hP;have HP3:=zA hP;clear HP2 hP hs;go_wp2_with fail
   go_ret
   exact⟨yS (by rw[HP3.out]),by rw[HP3.out];exact HC1.out,HK1.out⟩
  ·have hP:=HP2.out
   simp only[hs]at hP;have HP3:=zA hP;clear HP2 hP hs;go_wp2_with fail
   go_ret
   exact⟨yS (by rw[HP3.out]),by rw[HP3.out];exact HC1.out,HK1.out⟩
 have hP:=HP.out;rw[show jC.contains x=false from by simp[jC,c0',c1',c2',c3',c4',c5']]at hP;have HP2:Hid (F=([],s)):=hP;clear HP hP;have b0:(x==[60])=false:=by simpa using c0'
 have b1:(x==[60,61])=false:=by simpa using c1'
 have b2:(x==[61])=false:=by simpa using c2'
 have b3:(x==[33,61])=false:=by simpa using c3'
 have b4:(x==[62,61])=false:=by simpa using c4'
 have b5:(x==[62])=false:=by simpa using c5'
 clear c0' c1' c2' c3' c4' c5'
 go_enter Tryz.func261,Tryz.ntmps261
 go_wp2_with fail
 go_region_held3 (fun w'=>w'.cell? ⟨R,0,none⟩=some (.slice (some ⟨g,0,none⟩) P.length cap)/\w'.cell? ⟨R,1,none⟩=some (.int .i64 s.1)/\w'.cell? ⟨g,s.1*4+1,none⟩=some (.string ⟨x.toArray⟩)) (go_keep) (fail)
 go_wp2_with fail
 go_ret
 exact⟨yS (by rw[HP2.out]),by rw[HP2.out];exact yO.drew HC.out,zB.drew (zB.refl _ _ _)⟩
theorem zM(o:Obj):(w.alloc o).heap[w.heap.size]? = some o:=heap_alloc_new w o
theorem yJ{w:World}{o:Obj}(h:w.heap[k]? = some x):(w.alloc o).heap[k]? = some x:=by
 have hk:k<w.heap.size:=by
  rcases po k w.heap.size with h1|h1
  ·exact h1
  ·rw[pj h1]at h;cases h
 rw[mq _ _ _ hk];exact h
theorem DZ{w:World}(h:w.heap[k]? = some x):w.drew.heap[k]? = some x:=h
theorem kR{w:World}{b o:Nat}{u:Value}(h:w.heap[k]? = some x)(zIH:k≠b):(w.setCell ⟨b,o,none⟩ u).heap[k]? = some x:=by
 rw[lq _ _ _ _ zIH];exact h
theorem yC{W w1:World}{R:Nat}(h:W.heap[k]? = some x)(hk:zB W.heap.size R W w1)(zIH:k≠R):w1.heap[k]? = some x:=by
 have zI6:k<W.heap.size:=by
  rcases po k W.heap.size with h1|h1
  ·exact h1
  ·rw[pj h1]at h;cases h
 rw[hk.block k zI6 zIH];exact h
structure zX where
 kind:Int
 left:Int
 right:Int
 name:Bs
 mark:Bs
 other:Bs
 num:Int
def jQ(x:zX):Value:=.agg #[.int .i64 x.kind,.int .i64 x.left,.int .i64 x.right,.string ⟨x.name.toArray⟩,.string ⟨x.mark.toArray⟩,.string ⟨x.other.toArray⟩,.int .i64 x.num]
def vA(P:List PT)(s:St):zX × St :=
 match (zC P [97,108,119,97,121,115] s).1 with
 | true=>(⟨4,0,0,[],[],[],0⟩,(zC P [97,108,119,97,121,115] s).2)
 | false =>
   match (zC P [104,97,115] (zC P [97,108,119,97,121,115] s).2).1 with
   | true=>(⟨5,0,0,(zI P (zC P [104,97,115] (zC P [97,108,119,97,121,115] s).2).2).1,[],[],0⟩,(zI P (zC P [104,97,115] (zC P [97,108,119,97,121,115] s).2).2).2)
   | false =>
     match (vV P (zI P (zC P [104,97,115] (zC P [97,108,119,97,121,115] s).2).2).2).1.isEmpty with
     | true=>(⟨6,0,0,(zI P (zC P [104,97,115] (zC P [97,108,119,97,121,115] s).2).2).1,[],[],0⟩,(vV P (zI P (zC P [104,97,115] (zC P [97,108,119,97,121,115] s).2).2).2).2)
     | false =>
       match pA P (vV P (zI P (zC P [104,97,115] (zC P [97,108,119,97,121,115] s).2).2).2).2 with
       | true=>(⟨7,0,0,(zI P (zC P [104,97,115] (zC P [97,108,119,97,121,115] s).2).2).1,(vV P (zI P (zC P [104,97,115] (zC P [97,108,119,97,121,115] s).2).2).2).1,[],(yM P (vV P (zI P (zC P [104,97,115] (zC P [97,108,119,97,121,115] s).2).2).2).2).1⟩,(yM P (vV P (zI P (zC P [104,97,115] (zC P [97,108,119,97,121,115] s).2).2).2).2).2)
       | false=>(⟨7,0,0,(zI P (zC P [104,97,115] (zC P [97,108,119,97,121,115] s).2).2).1,(vV P (zI P (zC P [104,97,115] (zC P [97,108,119,97,121,115] s).2).2).2).1,(zI P (vV P (zI P (zC P [104,97,115] (zC P [97,108,119,97,121,115] s).2).2).2).2).1,0⟩,(zI P (vV P (zI P (zC P [104,97,115] (zC P [97,108,119,97,121,115] s).2).2).2).2).2)
theorem zFL(h:vK w R g cap P s)(h1:(zC P [97,108,119,97,121,115] s).1=true) :
 Calls Tryz.prog 260 #[.pointer (some ⟨R,0,none⟩)] w fun e w'=>e=.returned (jQ (vA P s).1)/\vK w' R g cap P (vA P s).2/\zB w.heap.size R w w':=by
 have hR:=h.rlt;have hg:=h.glt;have n0:w.heap.size≠R:=by omega
 have m0:w.heap.size≠g:=by omega
 have HC0:=zA h;have HP:Hid (vA P s=(⟨4,0,0,[],[],[],0⟩,(zC P [97,108,119,97,121,115] s).2)):=by unfold Hid vA;simp only[h1]
 have H1:=zA h1;clear h h1
 go_enter Tryz.func260,Tryz.ntmps260
 go_wp2_with fail
 refine(vJ R g cap P _ s [97,108,119,97,121,115] (yO.alloc HC0.out _)).mono ?_;rintro e w1 ⟨rfl,hc1,hk1⟩;rw[H1.out];have HC1:=zA hc1;have HT1:Hid (zB w.heap.size R w w1):=zB.step (zB.new (zB.refl _ _ _)) hk1;have q1_0:=fun o=>hk1.cell (p:=⟨w.heap.size,o,none⟩) (by simp;try omega) n0;have r1_0:=fun o=>hk1.frozen (p:=⟨w.heap.size,o,none⟩) (by simp;try omega) n0;have z1_0:w.heap.size<w1.heap.size:=ti (by simp;try omega) hk1.size;have b1:w1.heap[w.heap.size]? = some (.cells #[.int .i64 0,.int .i64 0,.int .i64 0,.string ⟨#[]⟩,.string ⟨#[]⟩,.string ⟨#[]⟩,.int .i64 0] 304 (0,0)):=yC (zM _ _) hk1 n0;clear hc1 hk1;go_wp2_with fail
 have cz1:=fun j=>fg _ _ j _ _ _ b1;refine ph (v:=jQ ⟨4,0,0,[],[],[],0⟩) (by simp (maxDischargeDepth:=8) [results,Tryz.results260,go_sem,jQ,cz1]) rfl ⟨by rw[HP.out],by rw[HP.out];exact(yO.set (yO.set (yO.set (yO.set (yO.set (yO.set (yO.set HC1.out n0 m0) n0 m0) n0 m0) n0 m0) n0 m0) n0 m0) n0 m0),(zB.set (zB.set (zB.set (zB.set (zB.set (zB.set (zB.set HT1.out (t9 _)) (t9 _)) (t9 _)) (t9 _)) (t9 _)) (t9 _)) (t9 _))⟩
theorem zFK(h:vK w R g cap P s)(h1:(zC P [97,108,119,97,121,115] s).1=false)(h2:(zC P [104,97,115] (zC P [97,108,119,97,121,115] s).2).1=true) :
 Calls Tryz.prog 260 #[.pointer (some ⟨R,0,none⟩)] w fun e w'=>e=.returned (jQ (vA P s).1)/\vK w' R g cap P (vA P s).2/\zB w.heap.size R w w':=by
 have hR:=h.rlt;have hg:=h.glt;have n0:w.heap.size≠R:=by omega
 have m0:w.heap.size≠g:=by omega
 have HC0:=zA h;have HP:Hid (vA P s=(⟨5,0,0,(zI P (zC P [104,97,115] (zC P [97,108,119,97,121,115] s).2).2).1,[],[],0⟩,(zI P (zC P [104,97,115] (zC P [97,108,119,97,121,115] s).2).2).2)):=by unfold Hid vA;simp only[h1,h2]
 have H1:=zA h1;have H2:=zA h2;clear h h1 h2
 go_enter Tryz.func260,Tryz.ntmps260
 go_wp2_with fail
 refine(vJ R g cap P _ s [97,108,119,97,121,115] (yO.alloc HC0.out _)).mono ?_;rintro e w1 ⟨rfl,hc1,hk1⟩;rw[H1.out];have HC1:=zA hc1;have HT1:Hid (zB w.heap.size R w w1):=zB.step (zB.new (zB.refl _ _ _)) hk1;have q1_0:=fun o=>hk1.cell (p:=⟨w.heap.size,o,none⟩) (by simp;try omega) n0;have r1_0:=fun o=>hk1.frozen (p:=⟨w.heap.size,o,none⟩) (by simp;try omega) n0;have z1_0:w.heap.size<w1.heap.size:=ti (by simp;try omega) hk1.size;have b1:w1.heap[w.heap.size]? = some (.cells #[.int .i64 0,.int .i64 0,.int .i64 0,.string ⟨#[]⟩,.string ⟨#[]⟩,.string ⟨#[]⟩,.int .i64 0] 304 (0,0)):=yC (zM _ _) hk1 n0;clear hc1 hk1;go_wp2_with fail
 refine(vJ R g cap P _ (zC P [97,108,119,97,121,115] s).2 [104,97,115] HC1.out).mono ?_;rintro e w2 ⟨rfl,hc2,hk2⟩;rw[H2.out];have HC2:=zA hc2;have HT2:Hid (zB w.heap.size R w w2):=zB.step HT1.out hk2;have q2_0:=fun o=>hk2.cell (p:=⟨w.heap.size,o,none⟩) z1_0 n0;have r2_0:=fun o=>hk2.frozen (p:=⟨w.heap.size,o,none⟩) z1_0 n0;have z2_0:w.heap.size<w2.heap.size:=ti z1_0 hk2.size;have b2:w2.heap[w.heap.size]? = some (.cells #[.int .i64 0,.int .i64 0,.int .i64 0,.string ⟨#[]⟩,.string ⟨#[]⟩,.string ⟨#[]⟩,.int .i64 0] 304 (0,0)):=yC b1 hk2 n0;clear hc2 hk2;go_wp2_with fail
 refine(bS R g cap P _ (zC P [104,97,115] (zC P [97,108,119,97,121,115] s).2).2 HC2.out).mono ?_;rintro e w3 ⟨rfl,hc3,hk3⟩;have HC3:=zA hc3;have HT3:Hid (zB w.heap.size R w w3):=zB.step HT2.out hk3;have q3_0:=fun o=>hk3.cell (p:=⟨w.heap.size,o,none⟩) z2_0 n0;have r3_0:=fun o=>hk3.frozen (p:=⟨w.heap.size,o,none⟩) z2_0 n0;have z3_0:w.heap.size<w3.heap.size:=ti z2_0 hk3.size;have b3:w3.heap[w.heap.size]? = some (.cells #[.int .i64 0,.int .i64 0,.int .i64 0,.string ⟨#[]⟩,.string ⟨#[]⟩,.string ⟨#[]⟩,.int .i64 0] 304 (0,0)):=yC b2 hk3 n0;clear hc3 hk3;go_wp2_with fail
 have cz3:=fun j=>fg _ _ j _ _ _ b3;refine ph (v:=jQ ⟨5,0,0,(zI P (zC P [104,97,115] (zC P [97,108,119,97,121,115] s).2).2).1,[],[],0⟩) (by simp (maxDischargeDepth:=8) [results,Tryz.results260,go_sem,jQ,cz3]) rfl ⟨by rw[HP.out],by rw[HP.out];exact(yO.set (yO.set (yO.set (yO.set (yO.set (yO.set (yO.set HC3.out n0 m0) n0 m0) n0 m0) n0 m0) n0 m0) n0 m0) n0 m0),(zB.set (zB.set (zB.set (zB.set (zB.set (zB.set (zB.set HT3.out (t9 _)) (t9 _)) (t9 _)) (t9 _)) (t9 _)) (t9 _)) (t9 _))⟩
theorem zFJ(h:vK w R g cap P s)(h1:(zC P [97,108,119,97,121,115] s).1=false)(h2:(zC P [104,97,115] (zC P [97,108,119,97,121,115] s).2).1=false)(h3:(vV P (zI P (zC P [104,97,115] (zC P [97,108,119,97,121,115] s).2).2).2).1.isEmpty=true) :
 Calls Tryz.prog 260 #[.pointer (some ⟨R,0,none⟩)] w fun e w'=>e=.returned (jQ (vA P s).1)/\vK w' R g cap P (vA P s).2/\zB w.heap.size R w w':=by
 have hR:=h.rlt;have hg:=h.glt;have n0:w.heap.size≠R:=by omega
 have m0:w.heap.size≠g:=by omega
 have HC0:=zA h;have HP:Hid (vA P s=(⟨6,0,0,(zI P (zC P [104,97,115] (zC P [97,108,119,97,121,115] s).2).2).1,[],[],0⟩,(vV P (zI P (zC P [104,97,115] (zC P [97,108,119,97,121,115] s).2).2).2).2)):=by unfold Hid vA;simp only[h1,h2,h3]
 have H1:=zA h1;have H2:=zA h2;have H3:=zA h3;clear h h1 h2 h3;have h3':=H3.out
 go_enter Tryz.func260,Tryz.ntmps260
 go_wp2_with fail
 refine(vJ R g cap P _ s [97,108,119,97,121,115] (yO.alloc HC0.out _)).mono ?_;rintro e w1 ⟨rfl,hc1,hk1⟩;rw[H1.out];have HC1:=zA hc1;have HT1:Hid (zB w.heap.size R w w1):=zB.step (zB.new (zB.refl _ _ _)) hk1;have q1_0:=fun o=>hk1.cell (p:=⟨w.heap.size,o,none⟩) (by simp;try omega) n0;have r1_0:=fun o=>hk1.frozen (p:=⟨w.heap.size,o,none⟩) (by simp;try omega) n0;have z1_0:w.heap.size<w1.heap.size:=ti (by simp;try omega) hk1.size;have b1:w1.heap[w.heap.size]? = some (.cells #[.int .i64 0,.int .i64 0,.int .i64 0,.string ⟨#[]⟩,.string ⟨#[]⟩,.string ⟨#[]⟩,.int .i64 0] 304 (0,0)):=yC (zM _ _) hk1 n0;clear hc1 hk1;go_wp2_with fail
 refine(vJ R g cap P _ (zC P [97,108,119,97,121,115] s).2 [104,97,115] HC1.out).mono ?_;rintro e w2 ⟨rfl,hc2,hk2⟩;rw[H2.out];have HC2:=zA hc2;have HT2:Hid (zB w.heap.size R w w2):=zB.step HT1.out hk2;have q2_0:=fun o=>hk2.cell (p:=⟨w.heap.size,o,none⟩) z1_0 n0;have r2_0:=fun o=>hk2.frozen (p:=⟨w.heap.size,o,none⟩) z1_0 n0;have z2_0:w.heap.size<w2.heap.size:=ti z1_0 hk2.size;have b2:w2.heap[w.heap.size]? = some (.cells #[.int .i64 0,.int .i64 0,.int .i64 0,.string ⟨#[]⟩,.string ⟨#[]⟩,.string ⟨#[]⟩,.int .i64 0] 304 (0,0)):=yC b1 hk2 n0;clear hc2 hk2;have nx:w2.heap.size≠R:=by have h1:=HT2.out.size;omega
 have mx:w2.heap.size≠g:=by have h1:=HT2.out.size;omega
 have lx:w.heap.size<=w2.heap.size:=HT2.out.size;have dx:w2.heap.size≠w.heap.size:=fq z2_0;have fx:w.heap.size≠w2.heap.size:=fo z2_0;have z2_x:True:=trivial;go_wp2_with fail
 refine(bS R g cap P _ (zC P [104,97,115] (zC P [97,108,119,97,121,115] s).2).2 (yO.alloc HC2.out _)).mono ?_;rintro e w3 ⟨rfl,hc3,hk3⟩;have HC3:=zA hc3;have HT3:Hid (zB w.heap.size R w w3):=zB.step (zB.new HT2.out) hk3;have q3_0:=fun o=>hk3.cell (p:=⟨w.heap.size,o,none⟩) (oG z2_0) n0;have r3_0:=fun o=>hk3.frozen (p:=⟨w.heap.size,o,none⟩) (oG z2_0) n0;have z3_0:w.heap.size<w3.heap.size:=ti (oG z2_0) hk3.size;have q3_x:=fun o=>hk3.cell (p:=⟨w2.heap.size,o,none⟩) (yL _ _) nx;have r3_x:=fun o=>hk3.frozen (p:=⟨w2.heap.size,o,none⟩) (yL _ _) nx;have z3_x:w2.heap.size<w3.heap.size:=ti (yL _ _) hk3.size;have b3:w3.heap[w.heap.size]? = some (.cells #[.int .i64 0,.int .i64 0,.int .i64 0,.string ⟨#[]⟩,.string ⟨#[]⟩,.string ⟨#[]⟩,.int .i64 0] 304 (0,0)):=yC (yJ b2) hk3 n0;clear hc3 hk3;go_wp2_with fail
 refine(oN _ R g cap P (zI P (zC P [104,97,115] (zC P [97,108,119,97,121,115] s).2).2).2 (yO.set HC3.out nx mx)).mono ?_;rintro e w4 ⟨rfl,hc4,hk4⟩;have HC4:=zA hc4;have HT4:Hid (zB w.heap.size R w w4):=zB.step (zB.set HT3.out lx) hk4;have q4_0:=fun o=>hk4.cell (p:=⟨w.heap.size,o,none⟩) (zK z3_0) n0;have r4_0:=fun o=>hk4.frozen (p:=⟨w.heap.size,o,none⟩) (zK z3_0) n0;have z4_0:w.heap.size<w4.heap.size:=ti (zK z3_0) hk4.size;have q4_x:=fun o=>hk4.cell (p:=⟨w2.heap.size,o,none⟩) (zK z3_x) nx;have r4_x:=fun o=>hk4.frozen (p:=⟨w2.heap.size,o,none⟩) (zK z3_x) nx;have z4_x:w2.heap.size<w4.heap.size:=ti (zK z3_x) hk4.size;have b4:w4.heap[w.heap.size]? = some (.cells #[.int .i64 0,.int .i64 0,.int .i64 0,.string ⟨#[]⟩,.string ⟨#[]⟩,.string ⟨#[]⟩,.int .i64 0] 304 (0,0)):=yC (kR b3 fx) hk4 n0;clear hc4 hk4;go_wp2_with fail
 have cz4:=fun j=>fg _ _ j _ _ _ b4;refine ph (v:=jQ ⟨6,0,0,(zI P (zC P [104,97,115] (zC P [97,108,119,97,121,115] s).2).2).1,[],[],0⟩) (by simp (maxDischargeDepth:=8) [results,Tryz.results260,go_sem,jQ,cz4]) rfl ⟨by rw[HP.out],by rw[HP.out];exact(yO.set (yO.set (yO.set (yO.set (yO.set (yO.set (yO.set HC4.out n0 m0) n0 m0) n0 m0) n0 m0) n0 m0) n0 m0) n0 m0),(zB.set (zB.set (zB.set (zB.set (zB.set (zB.set (zB.set HT4.out (t9 _)) (t9 _)) (t9 _)) (t9 _)) (t9 _)) (t9 _)) (t9 _))⟩
theorem zFI(h:vK w R g cap P s)(h1:(zC P [97,108,119,97,121,115] s).1=false)(h2:(zC P [104,97,115] (zC P [97,108,119,97,121,115] s).2).1=false)(h3:(vV P (zI P (zC P [104,97,115] (zC P [97,108,119,97,121,115] s).2).2).2).1.isEmpty=false)(h4:pA P (vV P (zI P (zC P [104,97,115] (zC P [97,108,119,97,121,115] s).2).2).2).2=true) :
 Calls Tryz.prog 260 #[.pointer (some ⟨R,0,none⟩)] w fun e w'=>e=.returned (jQ (vA P s).1)/\vK w' R g cap P (vA P s).2/\zB w.heap.size R w w':=by
 have hR:=h.rlt;have hg:=h.glt;have n0:w.heap.size≠R:=by omega
 have m0:w.heap.size≠g:=by omega
 have HC0:=zA h;have HP:Hid (vA P s=(⟨7,0,0,(zI P (zC P [104,97,115] (zC P [97,108,119,97,121,115] s).2).2).1,(vV P (zI P (zC P [104,97,115] (zC P [97,108,119,97,121,115] s).2).2).2).1,[],(yM P (vV P (zI P (zC P [104,97,115] (zC P [97,108,119,97,121,115] s).2).2).2).2).1⟩,(yM P (vV P (zI P (zC P [104,97,115] (zC P [97,108,119,97,121,115] s).2).2).2).2).2)):=by unfold Hid vA;simp only[h1,h2,h3,h4]
 have H1:=zA h1;have H2:=zA h2;have H3:=zA h3;have H4:=zA h4;clear h h1 h2 h3 h4;have h3':=H3.out
 go_enter Tryz.func260,Tryz.ntmps260
 go_wp2_with fail
 refine(vJ R g cap P _ s [97,108,119,97,121,115] (yO.alloc HC0.out _)).mono ?_;rintro e w1 ⟨rfl,hc1,hk1⟩;rw[H1.out];have HC1:=zA hc1;have HT1:Hid (zB w.heap.size R w w1):=zB.step (zB.new (zB.refl _ _ _)) hk1;have q1_0:=fun o=>hk1.cell (p:=⟨w.heap.size,o,none⟩) (by simp;try omega) n0;have r1_0:=fun o=>hk1.frozen (p:=⟨w.heap.size,o,none⟩) (by simp;try omega) n0;have z1_0:w.heap.size<w1.heap.size:=ti (by simp;try omega) hk1.size;have b1:w1.heap[w.heap.size]? = some (.cells #[.int .i64 0,.int .i64 0,.int .i64 0,.string ⟨#[]⟩,.string ⟨#[]⟩,.string ⟨#[]⟩,.int .i64 0] 304 (0,0)):=yC (zM _ _) hk1 n0;clear hc1 hk1;go_wp2_with fail
 refine(vJ R g cap P _ (zC P [97,108,119,97,121,115] s).2 [104,97,115] HC1.out).mono ?_;rintro e w2 ⟨rfl,hc2,hk2⟩;rw[H2.out];have HC2:=zA hc2;have HT2:Hid (zB w.heap.size R w w2):=zB.step HT1.out hk2;have q2_0:=fun o=>hk2.cell (p:=⟨w.heap.size,o,none⟩) z1_0 n0;have r2_0:=fun o=>hk2.frozen (p:=⟨w.heap.size,o,none⟩) z1_0 n0;have z2_0:w.heap.size<w2.heap.size:=ti z1_0 hk2.size;have b2:w2.heap[w.heap.size]? = some (.cells #[.int .i64 0,.int .i64 0,.int .i64 0,.string ⟨#[]⟩,.string ⟨#[]⟩,.string ⟨#[]⟩,.int .i64 0] 304 (0,0)):=yC b1 hk2 n0;clear hc2 hk2;have nx:w2.heap.size≠R:=by have h1:=HT2.out.size;omega
 have mx:w2.heap.size≠g:=by have h1:=HT2.out.size;omega
 have lx:w.heap.size<=w2.heap.size:=HT2.out.size;have dx:w2.heap.size≠w.heap.size:=fq z2_0;have fx:w.heap.size≠w2.heap.size:=fo z2_0;have z2_x:True:=trivial;go_wp2_with fail
 refine(bS R g cap P _ (zC P [104,97,115] (zC P [97,108,119,97,121,115] s).2).2 (yO.alloc HC2.out _)).mono ?_;rintro e w3 ⟨rfl,hc3,hk3⟩;have HC3:=zA hc3;have HT3:Hid (zB w.heap.size R w w3):=zB.step (zB.new HT2.out) hk3;have q3_0:=fun o=>hk3.cell (p:=⟨w.heap.size,o,none⟩) (oG z2_0) n0;have r3_0:=fun o=>hk3.frozen (p:=⟨w.heap.size,o,none⟩) (oG z2_0) n0;have z3_0:w.heap.size<w3.heap.size:=ti (oG z2_0) hk3.size;have q3_x:=fun o=>hk3.cell (p:=⟨w2.heap.size,o,none⟩) (yL _ _) nx;have r3_x:=fun o=>hk3.frozen (p:=⟨w2.heap.size,o,none⟩) (yL _ _) nx;have z3_x:w2.heap.size<w3.heap.size:=ti (yL _ _) hk3.size;have b3:w3.heap[w.heap.size]? = some (.cells #[.int .i64 0,.int .i64 0,.int .i64 0,.string ⟨#[]⟩,.string ⟨#[]⟩,.string ⟨#[]⟩,.int .i64 0] 304 (0,0)):=yC (yJ b2) hk3 n0;clear hc3 hk3;go_wp2_with fail
 refine(oN _ R g cap P (zI P (zC P [104,97,115] (zC P [97,108,119,97,121,115] s).2).2).2 (yO.set HC3.out nx mx)).mono ?_;rintro e w4 ⟨rfl,hc4,hk4⟩;have HC4:=zA hc4;have HT4:Hid (zB w.heap.size R w w4):=zB.step (zB.set HT3.out lx) hk4;have q4_0:=fun o=>hk4.cell (p:=⟨w.heap.size,o,none⟩) (zK z3_0) n0;have r4_0:=fun o=>hk4.frozen (p:=⟨w.heap.size,o,none⟩) (zK z3_0) n0;have z4_0:w.heap.size<w4.heap.size:=ti (zK z3_0) hk4.size;have q4_x:=fun o=>hk4.cell (p:=⟨w2.heap.size,o,none⟩) (zK z3_x) nx;have r4_x:=fun o=>hk4.frozen (p:=⟨w2.heap.size,o,none⟩) (zK z3_x) nx;have z4_x:w2.heap.size<w4.heap.size:=ti (zK z3_x) hk4.size;have b4:w4.heap[w.heap.size]? = some (.cells #[.int .i64 0,.int .i64 0,.int .i64 0,.string ⟨#[]⟩,.string ⟨#[]⟩,.string ⟨#[]⟩,.int .i64 0] 304 (0,0)):=yC (kR b3 fx) hk4 n0;clear hc4 hk4;go_wp2_with fail
 refine(iF R g cap P _ (vV P (zI P (zC P [104,97,115] (zC P [97,108,119,97,121,115] s).2).2).2).2 3 (yO.set (yO.set HC4.out nx mx) nx mx)).mono ?_;rintro e w5 ⟨rfl,hc5,hk5⟩;rw[show ((yW P (vV P (zI P (zC P [104,97,115] (zC P [97,108,119,97,121,115] s).2).2).2).2.1).k==3)=true from H4.out];have HC5:=zA hc5;have HT5:Hid (zB w.heap.size R w w5):=zB.step (zB.set (zB.set HT4.out lx) lx) hk5;have q5_0:=fun o=>hk5.cell (p:=⟨w.heap.size,o,none⟩) (zK (zK z4_0)) n0;have r5_0:=fun o=>hk5.frozen (p:=⟨w.heap.size,o,none⟩) (zK (zK z4_0)) n0;have z5_0:w.heap.size<w5.heap.size:=ti (zK (zK z4_0)) hk5.size;have q5_x:=fun o=>hk5.cell (p:=⟨w2.heap.size,o,none⟩) (zK (zK z4_x)) nx;have r5_x:=fun o=>hk5.frozen (p:=⟨w2.heap.size,o,none⟩) (zK (zK z4_x)) nx;have z5_x:w2.heap.size<w5.heap.size:=ti (zK (zK z4_x)) hk5.size;have b5:w5.heap[w.heap.size]? = some (.cells #[.int .i64 0,.int .i64 0,.int .i64 0,.string ⟨#[]⟩,.string ⟨#[]⟩,.string ⟨#[]⟩,.int .i64 0] 304 (0,0)):=yC (kR (kR b4 fx) fx) hk5 n0;clear hc5 hk5;go_wp2_with fail
 refine(rZ R g cap P _ (vV P (zI P (zC P [104,97,115] (zC P [97,108,119,97,121,115] s).2).2).2).2 HC5.out).mono ?_;rintro e w6 ⟨rfl,hc6,hk6⟩;have HC6:=zA hc6;have HT6:Hid (zB w.heap.size R w w6):=zB.step HT5.out hk6;have q6_0:=fun o=>hk6.cell (p:=⟨w.heap.size,o,none⟩) z5_0 n0;have r6_0:=fun o=>hk6.frozen (p:=⟨w.heap.size,o,none⟩) z5_0 n0;have z6_0:w.heap.size<w6.heap.size:=ti z5_0 hk6.size;have q6_x:=fun o=>hk6.cell (p:=⟨w2.heap.size,o,none⟩) z5_x nx;have r6_x:=fun o=>hk6.frozen (p:=⟨w2.heap.size,o,none⟩) z5_x nx;have z6_x:w2.heap.size<w6.heap.size:=ti z5_x hk6.size;have b6:w6.heap[w.heap.size]? = some (.cells #[.int .i64 0,.int .i64 0,.int .i64 0,.string ⟨#[]⟩,.string ⟨#[]⟩,.string ⟨#[]⟩,.int .i64 0] 304 (0,0)):=yC b5 hk6 n0;clear hc6 hk6;go_wp2_with fail
 have cz6:=fun j=>fg _ _ j _ _ _ b6;refine ph (v:=jQ ⟨7,0,0,(zI P (zC P [104,97,115] (zC P [97,108,119,97,121,115] s).2).2).1,(vV P (zI P (zC P [104,97,115] (zC P [97,108,119,97,121,115] s).2).2).2).1,[],(yM P (vV P (zI P (zC P [104,97,115] (zC P [97,108,119,97,121,115] s).2).2).2).2).1⟩) (by simp (maxDischargeDepth:=8) [results,Tryz.results260,go_sem,jQ,cz6]) rfl ⟨by rw[HP.out],by rw[HP.out];exact(yO.set (yO.set (yO.set (yO.set (yO.set (yO.set (yO.set (yO.set HC6.out nx mx) n0 m0) n0 m0) n0 m0) n0 m0) n0 m0) n0 m0) n0 m0),(zB.set (zB.set (zB.set (zB.set (zB.set (zB.set (zB.set (zB.set HT6.out lx) (t9 _)) (t9 _)) (t9 _)) (t9 _)) (t9 _)) (t9 _)) (t9 _))⟩
theorem zFH(h:vK w R g cap P s)(h1:(zC P [97,108,119,97,121,115] s).1=false)(h2:(zC P [104,97,115] (zC P [97,108,119,97,121,115] s).2).1=false)(h3:(vV P (zI P (zC P [104,97,115] (zC P [97,108,119,97,121,115] s).2).2).2).1.isEmpty=false)(h4:pA P (vV P (zI P (zC P [104,97,115] (zC P [97,108,119,97,121,115] s).2).2).2).2=false) :
 Calls Tryz.prog 260 #[.pointer (some ⟨R,0,none⟩)] w fun e w'=>e=.returned (jQ (vA P s).1)/\vK w' R g cap P (vA P s).2/\zB w.heap.size R w w':=by
 have hR:=h.rlt;have hg:=h.glt;have n0:w.heap.size≠R:=by omega
 have m0:w.heap.size≠g:=by omega
 have HC0:=zA h;have HP:Hid (vA P s=(⟨7,0,0,(zI P (zC P [104,97,115] (zC P [97,108,119,97,121,115] s).2).2).1,(vV P (zI P (zC P [104,97,115] (zC P [97,108,119,97,121,115] s).2).2).2).1,(zI P (vV P (zI P (zC P [104,97,115] (zC P [97,108,119,97,121,115] s).2).2).2).2).1,0⟩,(zI P (vV P (zI P (zC P [104,97,115] (zC P [97,108,119,97,121,115] s).2).2).2).2).2)):=by unfold Hid vA;simp only[h1,h2,h3,h4]
 have H1:=zA h1;have H2:=zA h2;have H3:=zA h3;have H4:=zA h4;clear h h1 h2 h3 h4;have h3':=H3.out
 go_enter Tryz.func260,Tryz.ntmps260
 go_wp2_with fail
 refine(vJ R g cap P _ s [97,108,119,97,121,115] (yO.alloc HC0.out _)).mono ?_;rintro e w1 ⟨rfl,hc1,hk1⟩;rw[H1.out];have HC1:=zA hc1;have HT1:Hid (zB w.heap.size R w w1):=zB.step (zB.new (zB.refl _ _ _)) hk1;have q1_0:=fun o=>hk1.cell (p:=⟨w.heap.size,o,none⟩) (by simp;try omega) n0;have r1_0:=fun o=>hk1.frozen (p:=⟨w.heap.size,o,none⟩) (by simp;try omega) n0;have z1_0:w.heap.size<w1.heap.size:=ti (by simp;try omega) hk1.size;have b1:w1.heap[w.heap.size]? = some (.cells #[.int .i64 0,.int .i64 0,.int .i64 0,.string ⟨#[]⟩,.string ⟨#[]⟩,.string ⟨#[]⟩,.int .i64 0] 304 (0,0)):=yC (zM _ _) hk1 n0;clear hc1 hk1;go_wp2_with fail
 refine(vJ R g cap P _ (zC P [97,108,119,97,121,115] s).2 [104,97,115] HC1.out).mono ?_;rintro e w2 ⟨rfl,hc2,hk2⟩;rw[H2.out];have HC2:=zA hc2;have HT2:Hid (zB w.heap.size R w w2):=zB.step HT1.out hk2;have q2_0:=fun o=>hk2.cell (p:=⟨w.heap.size,o,none⟩) z1_0 n0;have r2_0:=fun o=>hk2.frozen (p:=⟨w.heap.size,o,none⟩) z1_0 n0;have z2_0:w.heap.size<w2.heap.size:=ti z1_0 hk2.size;have b2:w2.heap[w.heap.size]? = some (.cells #[.int .i64 0,.int .i64 0,.int .i64 0,.string ⟨#[]⟩,.string ⟨#[]⟩,.string ⟨#[]⟩,.int .i64 0] 304 (0,0)):=yC b1 hk2 n0;clear hc2 hk2;have nx:w2.heap.size≠R:=by have h1:=HT2.out.size;omega
 have mx:w2.heap.size≠g:=by have h1:=HT2.out.size;omega
 have lx:w.heap.size<=w2.heap.size:=HT2.out.size;have dx:w2.heap.size≠w.heap.size:=fq z2_0;have fx:w.heap.size≠w2.heap.size:=fo z2_0;have z2_x:True:=trivial;go_wp2_with fail
 refine(bS R g cap P _ (zC P [104,97,115] (zC P [97,108,119,97,121,115] s).2).2 (yO.alloc HC2.out _)).mono ?_;rintro e w3 ⟨rfl,hc3,hk3⟩;have HC3:=zA hc3;have HT3:Hid (zB w.heap.size R w w3):=zB.step (zB.new HT2.out) hk3;have q3_0:=fun o=>hk3.cell (p:=⟨w.heap.size,o,none⟩) (oG z2_0) n0;have r3_0:=fun o=>hk3.frozen (p:=⟨w.heap.size,o,none⟩) (oG z2_0) n0;have z3_0:w.heap.size<w3.heap.size:=ti (oG z2_0) hk3.size;have q3_x:=fun o=>hk3.cell (p:=⟨w2.heap.size,o,none⟩) (yL _ _) nx;have r3_x:=fun o=>hk3.frozen (p:=⟨w2.heap.size,o,none⟩) (yL _ _) nx;have z3_x:w2.heap.size<w3.heap.size:=ti (yL _ _) hk3.size;have b3:w3.heap[w.heap.size]? = some (.cells #[.int .i64 0,.int .i64 0,.int .i64 0,.string ⟨#[]⟩,.string ⟨#[]⟩,.string ⟨#[]⟩,.int .i64 0] 304 (0,0)):=yC (yJ b2) hk3 n0;clear hc3 hk3;go_wp2_with fail
 refine(oN _ R g cap P (zI P (zC P [104,97,115] (zC P [97,108,119,97,121,115] s).2).2).2 (yO.set HC3.out nx mx)).mono ?_;rintro e w4 ⟨rfl,hc4,hk4⟩;have HC4:=zA hc4;have HT4:Hid (zB w.heap.size R w w4):=zB.step (zB.set HT3.out lx) hk4;have q4_0:=fun o=>hk4.cell (p:=⟨w.heap.size,o,none⟩) (zK z3_0) n0;have r4_0:=fun o=>hk4.frozen (p:=⟨w.heap.size,o,none⟩) (zK z3_0) n0;have z4_0:w.heap.size<w4.heap.size:=ti (zK z3_0) hk4.size;have q4_x:=fun o=>hk4.cell (p:=⟨w2.heap.size,o,none⟩) (zK z3_x) nx;have r4_x:=fun o=>hk4.frozen (p:=⟨w2.heap.size,o,none⟩) (zK z3_x) nx;have z4_x:w2.heap.size<w4.heap.size:=ti (zK z3_x) hk4.size;have b4:w4.heap[w.heap.size]? = some (.cells #[.int .i64 0,.int .i64 0,.int .i64 0,.string ⟨#[]⟩,.string ⟨#[]⟩,.string ⟨#[]⟩,.int .i64 0] 304 (0,0)):=yC (kR b3 fx) hk4 n0;clear hc4 hk4;go_wp2_with fail
 refine(iF R g cap P _ (vV P (zI P (zC P [104,97,115] (zC P [97,108,119,97,121,115] s).2).2).2).2 3 (yO.set (yO.set HC4.out nx mx) nx mx)).mono ?_;rintro e w5 ⟨rfl,hc5,hk5⟩;rw[show ((yW P (vV P (zI P (zC P [104,97,115] (zC P [97,108,119,97,121,115] s).2).2).2).2.1).k==3)=false from H4.out];have HC5:=zA hc5;have HT5:Hid (zB w.heap.size R w w5):=zB.step (zB.set (zB.set HT4.out lx) lx) hk5;have q5_0:=fun o=>hk5.cell (p:=⟨w.heap.size,o,none⟩) (zK (zK z4_0)) n0;have r5_0:=fun o=>hk5.frozen (p:=⟨w.heap.size,o,none⟩) (zK (zK z4_0)) n0;have z5_0:w.heap.size<w5.heap.size:=ti (zK (zK z4_0)) hk5.size;have q5_x:=fun o=>hk5.cell (p:=⟨w2.heap.size,o,none⟩) (zK (zK z4_x)) nx;have r5_x:=fun o=>hk5.frozen (p:=⟨w2.heap.size,o,none⟩) (zK (zK z4_x)) nx;have z5_x:w2.heap.size<w5.heap.size:=ti (zK (zK z4_x)) hk5.size;have b5:w5.heap[w.heap.size]? = some (.cells #[.int .i64 0,.int .i64 0,.int .i64 0,.string ⟨#[]⟩,.string ⟨#[]⟩,.string ⟨#[]⟩,.int .i64 0] 304 (0,0)):=yC (kR (kR b4 fx) fx) hk5 n0;clear hc5 hk5;go_wp2_with fail
 refine(bS R g cap P _ (vV P (zI P (zC P [104,97,115] (zC P [97,108,119,97,121,115] s).2).2).2).2 HC5.out).mono ?_;rintro e w6 ⟨rfl,hc6,hk6⟩;have HC6:=zA hc6;have HT6:Hid (zB w.heap.size R w w6):=zB.step HT5.out hk6;have q6_0:=fun o=>hk6.cell (p:=⟨w.heap.size,o,none⟩) z5_0 n0;have r6_0:=fun o=>hk6.frozen (p:=⟨w.heap.size,o,none⟩) z5_0 n0;have z6_0:w.heap.size<w6.heap.size:=ti z5_0 hk6.size;have q6_x:=fun o=>hk6.cell (p:=⟨w2.heap.size,o,none⟩) z5_x nx;have r6_x:=fun o=>hk6.frozen (p:=⟨w2.heap.size,o,none⟩) z5_x nx;have z6_x:w2.heap.size<w6.heap.size:=ti z5_x hk6.size;have b6:w6.heap[w.heap.size]? = some (.cells #[.int .i64 0,.int .i64 0,.int .i64 0,.string ⟨#[]⟩,.string ⟨#[]⟩,.string ⟨#[]⟩,.int .i64 0] 304 (0,0)):=yC b5 hk6 n0;clear hc6 hk6;go_wp2_with fail
 have cz6:=fun j=>fg _ _ j _ _ _ b6;refine ph (v:=jQ ⟨7,0,0,(zI P (zC P [104,97,115] (zC P [97,108,119,97,121,115] s).2).2).1,(vV P (zI P (zC P [104,97,115] (zC P [97,108,119,97,121,115] s).2).2).2).1,(zI P (vV P (zI P (zC P [104,97,115] (zC P [97,108,119,97,121,115] s).2).2).2).2).1,0⟩) (by simp (maxDischargeDepth:=8) [results,Tryz.results260,go_sem,jQ,cz6]) rfl ⟨by rw[HP.out],by rw[HP.out];exact(yO.set (yO.set (yO.set (yO.set (yO.set (yO.set (yO.set (yO.set HC6.out nx mx) n0 m0) n0 m0) n0 m0) n0 m0) n0 m0) n0 m0) n0 m0),(zB.set (zB.set (zB.set (zB.set (zB.set (zB.set (zB.set (zB.set HT6.out lx) (t9 _)) (t9 _)) (t9 _)) (t9 _)) (t9 _)) (t9 _)) (t9 _))⟩
theorem vt(h:vK w R g cap P s) :
 Calls Tryz.prog 260 #[.pointer (some ⟨R,0,none⟩)] w fun e w'=>e=.returned (jQ (vA P s).1)/\vK w' R g cap P (vA P s).2/\zB w.heap.size R w w':=by
 cases h1:(zC P [97,108,119,97,121,115] s).1
 ·cases h2:(zC P [104,97,115] (zC P [97,108,119,97,121,115] s).2).1
  ·cases h3:(vV P (zI P (zC P [104,97,115] (zC P [97,108,119,97,121,115] s).2).2).2).1.isEmpty
   ·cases h4:pA P (vV P (zI P (zC P [104,97,115] (zC P [97,108,119,97,121,115] s).2).2).2).2
    ·exact zFH w R g cap P s h h1 h2 h3 h4
    ·exact zFI w R g cap P s h h1 h2 h3 h4
   ·exact zFJ w R g cap P s h h1 h2 h3
  ·exact zFK w R g cap P s h h1 h2
 ·exact zFL w R g cap P s h h1
end Go.Proofs.YtnbpdffdnphbeaaGreatDoor
