import Derived.Test.YtnbpdffdnphbeabGreatDoorPars
import Derived.Deep.RegionLaw
set_option maxHeartbeats 1000000
namespace Go.Proofs.YtnbpdffdnphbeabGreatDoor
open Go.RowKit
variable{dep root tests:Int}{k G R:Nat}{x:Obj}{v:Value}{w' w1 w:World}
def gO:List Bs:=[[60],[60,61],[61],[33,61],[62,61],[62]]
def vE(P:List PT)(s:St):Bs × St :=
 match gO.contains (yJ P s.1).s with
 | true=>match (zD P (yJ P s.1).s s).1 with
   | true=>((yJ P s.1).s,(zD P (yJ P s.1).s s).2)
   | false=>([],(zD P (yJ P s.1).s s).2)
 | false=>([],s)
theorem dR(w:World)(R g cap:Nat)(P:List PT)(s:St)(h:xN w R g cap P s) :
 Calls Tryz.prog 192 #[.pointer (some ⟨R,0,none⟩)] w fun e w'=>e=.returned (.string ⟨(vE P s).1.toArray⟩)/\xN w' R g cap P (vE P s).2/\zB w.heap.size R w w':=by
 obtain⟨c0,c1,_⟩:=h.cells;obtain⟨_,t1,_,_⟩:=h.tok s.1 h.at';have i1:(0:Int)<=(s.1:Int):=by omega
 have i2:(s.1:Int)<(P.length:Int):=by have:=h.at';omega
 have HC:=zA h;have HP:Hid (vE P s=match gO.contains (yJ P s.1).s with|true=>(match (zD P (yJ P s.1).s s).1 with|true=>((yJ P s.1).s,(zD P (yJ P s.1).s s).2)|false=>([],(zD P (yJ P s.1).s s).2))|false=>([],s)):=rfl;generalize (yJ P s.1).s=x at *;generalize vE P s=F at *;clear h;by_cases c0':x=[60]
 ·subst c0'
  have hP:=HP.out;rw[show gO.contains [60]=true from by decide]at hP;have HP2:=zA hP;clear HP hP
  go_enter Tryz.func192,Tryz.ntmps192
  go_wp2_with fail
  go_region_held3 (fun w'=>w'.cell? ⟨R,0,none⟩=some (.slice (some ⟨g,0,none⟩) P.length cap)/\w'.cell? ⟨R,1,none⟩=some (.int .i64 s.1)/\w'.cell? ⟨g,s.1*4+1,none⟩=some (.string ⟨[60].toArray⟩)) (go_keep) (fail)
  go_wp2_with fail
  refine(xL R g cap P _ s [60] (yA.drew HC.out)).mono ?_;rintro e w1 ⟨rfl,hc1,hk1⟩;have HC1:=zA hc1;have HK1:Hid (zB w.heap.size R w w1):=zB.step (zB.drew (zB.refl _ _ _)) hk1;clear hc1 hk1;cases hs:(zD P [60] s).1
  ·have hP:=HP2.out
   simp only[hs]at hP;have HP3:=zA hP;clear HP2 hP hs;go_wp2_with fail
   go_ret
   exact⟨kW (by rw[HP3.out]),by rw[HP3.out];exact HC1.out,HK1.out⟩
  ·have hP:=HP2.out
   simp only[hs]at hP;have HP3:=zA hP;clear HP2 hP hs;go_wp2_with fail
   go_ret
   exact⟨kW (by rw[HP3.out]),by rw[HP3.out];exact HC1.out,HK1.out⟩
 by_cases c1':x=[60,61]
 ·subst c1'
  have hP:=HP.out;rw[show gO.contains [60,61]=true from by decide]at hP;have HP2:=zA hP;clear HP hP
  go_enter Tryz.func192,Tryz.ntmps192
  go_wp2_with fail
  go_region_held3 (fun w'=>w'.cell? ⟨R,0,none⟩=some (.slice (some ⟨g,0,none⟩) P.length cap)/\w'.cell? ⟨R,1,none⟩=some (.int .i64 s.1)/\w'.cell? ⟨g,s.1*4+1,none⟩=some (.string ⟨[60,61].toArray⟩)) (go_keep) (fail)
  go_wp2_with fail
  refine(xL R g cap P _ s [60,61] (yA.drew HC.out)).mono ?_;rintro e w1 ⟨rfl,hc1,hk1⟩;have HC1:=zA hc1;have HK1:Hid (zB w.heap.size R w w1):=zB.step (zB.drew (zB.refl _ _ _)) hk1;clear hc1 hk1;cases hs:(zD P [60,61] s).1
  ·have hP:=HP2.out
   simp only[hs]at hP;have HP3:=zA hP;clear HP2 hP hs;go_wp2_with fail
   go_ret
   exact⟨kW (by rw[HP3.out]),by rw[HP3.out];exact HC1.out,HK1.out⟩
  ·have hP:=HP2.out
   simp only[hs]at hP;have HP3:=zA hP;clear HP2 hP hs;go_wp2_with fail
   go_ret
   exact⟨kW (by rw[HP3.out]),by rw[HP3.out];exact HC1.out,HK1.out⟩
 by_cases c2':x=[61]
 ·subst c2'
  have hP:=HP.out;rw[show gO.contains [61]=true from by decide]at hP;have HP2:=zA hP;clear HP hP
  go_enter Tryz.func192,Tryz.ntmps192
  go_wp2_with fail
  go_region_held3 (fun w'=>w'.cell? ⟨R,0,none⟩=some (.slice (some ⟨g,0,none⟩) P.length cap)/\w'.cell? ⟨R,1,none⟩=some (.int .i64 s.1)/\w'.cell? ⟨g,s.1*4+1,none⟩=some (.string ⟨[61].toArray⟩)) (go_keep) (fail)
  go_wp2_with fail
  refine(xL R g cap P _ s [61] (yA.drew HC.out)).mono ?_;rintro e w1 ⟨rfl,hc1,hk1⟩;have HC1:=zA hc1;have HK1:Hid (zB w.heap.size R w w1):=zB.step (zB.drew (zB.refl _ _ _)) hk1;clear hc1 hk1;cases hs:(zD P [61] s).1
  ·have hP:=HP2.out
   simp only[hs]at hP;have HP3:=zA hP;clear HP2 hP hs;go_wp2_with fail
   go_ret
   exact⟨kW (by rw[HP3.out]),by rw[HP3.out];exact HC1.out,HK1.out⟩
  ·have hP:=HP2.out
   simp only[hs]at hP;have HP3:=zA hP;clear HP2 hP hs;go_wp2_with fail
   go_ret
   exact⟨kW (by rw[HP3.out]),by rw[HP3.out];exact HC1.out,HK1.out⟩
 by_cases c3':x=[33,61]
 ·subst c3'
  have hP:=HP.out;rw[show gO.contains [33,61]=true from by decide]at hP;have HP2:=zA hP;clear HP hP
  go_enter Tryz.func192,Tryz.ntmps192
  go_wp2_with fail
  go_region_held3 (fun w'=>w'.cell? ⟨R,0,none⟩=some (.slice (some ⟨g,0,none⟩) P.length cap)/\w'.cell? ⟨R,1,none⟩=some (.int .i64 s.1)/\w'.cell? ⟨g,s.1*4+1,none⟩=some (.string ⟨[33,61].toArray⟩)) (go_keep) (fail)
  go_wp2_with fail
  refine(xL R g cap P _ s [33,61] (yA.drew HC.out)).mono ?_;rintro e w1 ⟨rfl,hc1,hk1⟩;have HC1:=zA hc1;have HK1:Hid (zB w.heap.size R w w1):=zB.step (zB.drew (zB.refl _ _ _)) hk1;clear hc1 hk1;cases hs:(zD P [33,61] s).1
  ·have hP:=HP2.out
   simp only[hs]at hP;have HP3:=zA hP;clear HP2 hP hs;go_wp2_with fail
   go_ret
   exact⟨kW (by rw[HP3.out]),by rw[HP3.out];exact HC1.out,HK1.out⟩
  ·have hP:=HP2.out
   simp only[hs]at hP;have HP3:=zA hP;clear HP2 hP hs;go_wp2_with fail
   go_ret
   exact⟨kW (by rw[HP3.out]),by rw[HP3.out];exact HC1.out,HK1.out⟩
 by_cases c4':x=[62,61]
 ·subst c4'
  have hP:=HP.out;rw[show gO.contains [62,61]=true from by decide]at hP;have HP2:=zA hP;clear HP hP
  go_enter Tryz.func192,Tryz.ntmps192
  go_wp2_with fail
  go_region_held3 (fun w'=>w'.cell? ⟨R,0,none⟩=some (.slice (some ⟨g,0,none⟩) P.length cap)/\w'.cell? ⟨R,1,none⟩=some (.int .i64 s.1)/\w'.cell? ⟨g,s.1*4+1,none⟩=some (.string ⟨[62,61].toArray⟩)) (go_keep) (fail)
  go_wp2_with fail
  refine(xL R g cap P _ s [62,61] (yA.drew HC.out)).mono ?_;rintro e w1 ⟨rfl,hc1,hk1⟩;have HC1:=zA hc1;have HK1:Hid (zB w.heap.size R w w1):=zB.step (zB.drew (zB.refl _ _ _)) hk1;clear hc1 hk1;cases hs:(zD P [62,61] s).1
  ·have hP:=HP2.out
   simp only[hs]at hP;have HP3:=zA hP;clear HP2 hP hs;go_wp2_with fail
   go_ret
   exact⟨kW (by rw[HP3.out]),by rw[HP3.out];exact HC1.out,HK1.out⟩
  ·have hP:=HP2.out
   simp only[hs]at hP;have HP3:=zA hP;clear HP2 hP hs;go_wp2_with fail
   go_ret
   exact⟨kW (by rw[HP3.out]),by rw[HP3.out];exact HC1.out,HK1.out⟩
 by_cases c5':x=[62]
 ·subst c5'
  have hP:=HP.out;rw[show gO.contains [62]=true from by decide]at hP;have HP2:=zA hP;clear HP hP
  go_enter Tryz.func192,Tryz.ntmps192
  go_wp2_with fail
  go_region_held3 (fun w'=>w'.cell? ⟨R,0,none⟩=some (.slice (some ⟨g,0,none⟩) P.length cap)/\w'.cell? ⟨R,1,none⟩=some (.int .i64 s.1)/\w'.cell? ⟨g,s.1*4+1,none⟩=some (.string ⟨[62].toArray⟩)) (go_keep) (fail)
  go_wp2_with fail
  refine(xL R g cap P _ s [62] (yA.drew HC.out)).mono ?_;rintro e w1 ⟨rfl,hc1,hk1⟩;have HC1:=zA hc1;have HK1:Hid (zB w.heap.size R w w1):=zB.step (zB.drew (zB.refl _ _ _)) hk1;clear hc1 hk1;cases hs:(zD P [62] s).1
  ·have hP:=HP2.out
   simp only[hs]at hP;have HP3:=zA hP;clear HP2 hP hs;go_wp2_with fail
   go_ret
   exact⟨kW (by rw[HP3.out]),by rw[HP3.out];exact HC1.out,HK1.out⟩
  ·have hP:=HP2.out
   simp only[hs]at hP;have HP3:=zA hP;clear HP2 hP hs;go_wp2_with fail
   go_ret
   exact⟨kW (by rw[HP3.out]),by rw[HP3.out];exact HC1.out,HK1.out⟩
 have hP:=HP.out;rw[show gO.contains x=false from by simp[gO,c0',c1',c2',c3',c4',c5']]at hP;have HP2:Hid (F=([],s)):=hP;clear HP hP;have b0:(x==[60])=false:=by simpa using c0'
 have b1:(x==[60,61])=false:=by simpa using c1'
 have b2:(x==[61])=false:=by simpa using c2'
 have b3:(x==[33,61])=false:=by simpa using c3'
 have b4:(x==[62,61])=false:=by simpa using c4'
 have b5:(x==[62])=false:=by simpa using c5'
 clear c0' c1' c2' c3' c4' c5'
 go_enter Tryz.func192,Tryz.ntmps192
 go_wp2_with fail
 go_region_held3 (fun w'=>w'.cell? ⟨R,0,none⟩=some (.slice (some ⟨g,0,none⟩) P.length cap)/\w'.cell? ⟨R,1,none⟩=some (.int .i64 s.1)/\w'.cell? ⟨g,s.1*4+1,none⟩=some (.string ⟨x.toArray⟩)) (go_keep) (fail)
 go_wp2_with fail
 go_ret
 exact⟨kW (by rw[HP2.out]),by rw[HP2.out];exact yA.drew HC.out,zB.drew (zB.refl _ _ _)⟩
theorem zH(w:World)(o:Obj):(w.alloc o).heap[w.heap.size]? = some o:=heap_alloc_new w o
theorem zZ{o:Obj}(h:w.heap[k]? = some x):(w.alloc o).heap[k]? = some x:=by
 have hk:k<w.heap.size:=by
  rcases pf k w.heap.size with h1|h1
  ·exact h1
  ·rw[pb h1]at h;cases h
 rw[ld _ _ _ hk];exact h
theorem nK(h:w.heap[k]? = some x):w.drew.heap[k]? = some x:=h
theorem uQ{b o:Nat}{u:Value}(h:w.heap[k]? = some x)(zEB:k≠b):(w.setCell ⟨b,o,none⟩ u).heap[k]? = some x:=by
 rw[ms _ _ _ _ zEB];exact h
theorem zP{W:World}(h:W.heap[k]? = some x)(hk:zB W.heap.size R W w1)(zEB:k≠R):w1.heap[k]? = some x:=by
 have zE9:k<W.heap.size:=by
  rcases pf k W.heap.size with h1|h1
  ·exact h1
  ·rw[pb h1]at h;cases h
 rw[hk.block k zE9 zEB];exact h
structure zM where
 kind:Int
 left:Int
 right:Int
 name:Bs
 mark:Bs
 other:Bs
 num:Int
def qO(x:zM):Value:=.agg #[.int .i64 x.kind,.int .i64 x.left,.int .i64 x.right,.string ⟨x.name.toArray⟩,.string ⟨x.mark.toArray⟩,.string ⟨x.other.toArray⟩,.int .i64 x.num]
def vH(P:List PT)(s:St):zM × St :=
 match (zD P [97,108,119,97,121,115] s).1 with
 | true=>(⟨4,0,0,[],[],[],0⟩,(zD P [97,108,119,97,121,115] s).2)
 | false =>
   match (zD P [104,97,115] (zD P [97,108,119,97,121,115] s).2).1 with
   | true=>(⟨5,0,0,(zG P (zD P [104,97,115] (zD P [97,108,119,97,121,115] s).2).2).1,[],[],0⟩,(zG P (zD P [104,97,115] (zD P [97,108,119,97,121,115] s).2).2).2)
   | false =>
     match (vE P (zG P (zD P [104,97,115] (zD P [97,108,119,97,121,115] s).2).2).2).1.isEmpty with
     | true=>(⟨6,0,0,(zG P (zD P [104,97,115] (zD P [97,108,119,97,121,115] s).2).2).1,[],[],0⟩,(vE P (zG P (zD P [104,97,115] (zD P [97,108,119,97,121,115] s).2).2).2).2)
     | false =>
       match isNum P (vE P (zG P (zD P [104,97,115] (zD P [97,108,119,97,121,115] s).2).2).2).2 with
       | true=>(⟨7,0,0,(zG P (zD P [104,97,115] (zD P [97,108,119,97,121,115] s).2).2).1,(vE P (zG P (zD P [104,97,115] (zD P [97,108,119,97,121,115] s).2).2).2).1,[],(yB P (vE P (zG P (zD P [104,97,115] (zD P [97,108,119,97,121,115] s).2).2).2).2).1⟩,(yB P (vE P (zG P (zD P [104,97,115] (zD P [97,108,119,97,121,115] s).2).2).2).2).2)
       | false=>(⟨7,0,0,(zG P (zD P [104,97,115] (zD P [97,108,119,97,121,115] s).2).2).1,(vE P (zG P (zD P [104,97,115] (zD P [97,108,119,97,121,115] s).2).2).2).1,(zG P (vE P (zG P (zD P [104,97,115] (zD P [97,108,119,97,121,115] s).2).2).2).2).1,0⟩,(zG P (vE P (zG P (zD P [104,97,115] (zD P [97,108,119,97,121,115] s).2).2).2).2).2)
theorem zAJ(w:World)(R g cap:Nat)(P:List PT)(s:St)(h:xN w R g cap P s)(h1:(zD P [97,108,119,97,121,115] s).1=true) :
 Calls Tryz.prog 191 #[.pointer (some ⟨R,0,none⟩)] w fun e w'=>e=.returned (qO (vH P s).1)/\xN w' R g cap P (vH P s).2/\zB w.heap.size R w w':=by
 have hR:=h.rlt;have hg:=h.glt;have n0:w.heap.size≠R:=by omega
 have m0:w.heap.size≠g:=by omega
 have HC0:=zA h;have HP:Hid (vH P s=(⟨4,0,0,[],[],[],0⟩,(zD P [97,108,119,97,121,115] s).2)):=by unfold Hid vH;simp only[h1]
 have H1:=zA h1;clear h h1
 go_enter Tryz.func191,Tryz.ntmps191
 go_wp2_with fail
 refine(xL R g cap P _ s [97,108,119,97,121,115] (yA.alloc HC0.out _)).mono ?_;rintro e w1 ⟨rfl,hc1,hk1⟩;rw[H1.out];have HC1:=zA hc1;have HT1:Hid (zB w.heap.size R w w1):=zB.step (zB.new (zB.refl _ _ _)) hk1;have q1_0:=fun o=>hk1.cell (p:=⟨w.heap.size,o,none⟩) (by simp;try omega) n0;have r1_0:=fun o=>hk1.frozen (p:=⟨w.heap.size,o,none⟩) (by simp;try omega) n0;have z1_0:w.heap.size<w1.heap.size:=t8 (by simp;try omega) hk1.size;have b1:w1.heap[w.heap.size]? = some (.cells #[.int .i64 0,.int .i64 0,.int .i64 0,.string ⟨#[]⟩,.string ⟨#[]⟩,.string ⟨#[]⟩,.int .i64 0] 238 (0,0)):=zP (zH _ _) hk1 n0;clear hc1 hk1;go_wp2_with fail
 have cz1:=fun j=>cq _ _ j _ _ _ b1;refine p5 (v:=qO ⟨4,0,0,[],[],[],0⟩) (by simp (maxDischargeDepth:=8) [results,Tryz.results191,go_sem,qO,cz1]) rfl ⟨by rw[HP.out],by rw[HP.out];exact(yA.set (yA.set (yA.set (yA.set (yA.set (yA.set (yA.set HC1.out n0 m0) n0 m0) n0 m0) n0 m0) n0 m0) n0 m0) n0 m0),(zB.set (zB.set (zB.set (zB.set (zB.set (zB.set (zB.set HT1.out (j1 _)) (j1 _)) (j1 _)) (j1 _)) (j1 _)) (j1 _)) (j1 _))⟩
theorem zAI(w:World)(R g cap:Nat)(P:List PT)(s:St)(h:xN w R g cap P s)(h1:(zD P [97,108,119,97,121,115] s).1=false)(h2:(zD P [104,97,115] (zD P [97,108,119,97,121,115] s).2).1=true) :
 Calls Tryz.prog 191 #[.pointer (some ⟨R,0,none⟩)] w fun e w'=>e=.returned (qO (vH P s).1)/\xN w' R g cap P (vH P s).2/\zB w.heap.size R w w':=by
 have hR:=h.rlt;have hg:=h.glt;have n0:w.heap.size≠R:=by omega
 have m0:w.heap.size≠g:=by omega
 have HC0:=zA h;have HP:Hid (vH P s=(⟨5,0,0,(zG P (zD P [104,97,115] (zD P [97,108,119,97,121,115] s).2).2).1,[],[],0⟩,(zG P (zD P [104,97,115] (zD P [97,108,119,97,121,115] s).2).2).2)):=by unfold Hid vH;simp only[h1,h2]
 have H1:=zA h1;have H2:=zA h2;clear h h1 h2
 go_enter Tryz.func191,Tryz.ntmps191
 go_wp2_with fail
 refine(xL R g cap P _ s [97,108,119,97,121,115] (yA.alloc HC0.out _)).mono ?_;rintro e w1 ⟨rfl,hc1,hk1⟩;rw[H1.out];have HC1:=zA hc1;have HT1:Hid (zB w.heap.size R w w1):=zB.step (zB.new (zB.refl _ _ _)) hk1;have q1_0:=fun o=>hk1.cell (p:=⟨w.heap.size,o,none⟩) (by simp;try omega) n0;have r1_0:=fun o=>hk1.frozen (p:=⟨w.heap.size,o,none⟩) (by simp;try omega) n0;have z1_0:w.heap.size<w1.heap.size:=t8 (by simp;try omega) hk1.size;have b1:w1.heap[w.heap.size]? = some (.cells #[.int .i64 0,.int .i64 0,.int .i64 0,.string ⟨#[]⟩,.string ⟨#[]⟩,.string ⟨#[]⟩,.int .i64 0] 238 (0,0)):=zP (zH _ _) hk1 n0;clear hc1 hk1;go_wp2_with fail
 refine(xL R g cap P _ (zD P [97,108,119,97,121,115] s).2 [104,97,115] HC1.out).mono ?_;rintro e w2 ⟨rfl,hc2,hk2⟩;rw[H2.out];have HC2:=zA hc2;have HT2:Hid (zB w.heap.size R w w2):=zB.step HT1.out hk2;have q2_0:=fun o=>hk2.cell (p:=⟨w.heap.size,o,none⟩) z1_0 n0;have r2_0:=fun o=>hk2.frozen (p:=⟨w.heap.size,o,none⟩) z1_0 n0;have z2_0:w.heap.size<w2.heap.size:=t8 z1_0 hk2.size;have b2:w2.heap[w.heap.size]? = some (.cells #[.int .i64 0,.int .i64 0,.int .i64 0,.string ⟨#[]⟩,.string ⟨#[]⟩,.string ⟨#[]⟩,.int .i64 0] 238 (0,0)):=zP b1 hk2 n0;clear hc2 hk2;go_wp2_with fail
 refine(pO R g cap P _ (zD P [104,97,115] (zD P [97,108,119,97,121,115] s).2).2 HC2.out).mono ?_;rintro e w3 ⟨rfl,hc3,hk3⟩;have HC3:=zA hc3;have HT3:Hid (zB w.heap.size R w w3):=zB.step HT2.out hk3;have q3_0:=fun o=>hk3.cell (p:=⟨w.heap.size,o,none⟩) z2_0 n0;have r3_0:=fun o=>hk3.frozen (p:=⟨w.heap.size,o,none⟩) z2_0 n0;have z3_0:w.heap.size<w3.heap.size:=t8 z2_0 hk3.size;have b3:w3.heap[w.heap.size]? = some (.cells #[.int .i64 0,.int .i64 0,.int .i64 0,.string ⟨#[]⟩,.string ⟨#[]⟩,.string ⟨#[]⟩,.int .i64 0] 238 (0,0)):=zP b2 hk3 n0;clear hc3 hk3;go_wp2_with fail
 have cz3:=fun j=>cq _ _ j _ _ _ b3;refine p5 (v:=qO ⟨5,0,0,(zG P (zD P [104,97,115] (zD P [97,108,119,97,121,115] s).2).2).1,[],[],0⟩) (by simp (maxDischargeDepth:=8) [results,Tryz.results191,go_sem,qO,cz3]) rfl ⟨by rw[HP.out],by rw[HP.out];exact(yA.set (yA.set (yA.set (yA.set (yA.set (yA.set (yA.set HC3.out n0 m0) n0 m0) n0 m0) n0 m0) n0 m0) n0 m0) n0 m0),(zB.set (zB.set (zB.set (zB.set (zB.set (zB.set (zB.set HT3.out (j1 _)) (j1 _)) (j1 _)) (j1 _)) (j1 _)) (j1 _)) (j1 _))⟩
theorem zAH(w:World)(R g cap:Nat)(P:List PT)(s:St)(h:xN w R g cap P s)(h1:(zD P [97,108,119,97,121,115] s).1=false)(h2:(zD P [104,97,115] (zD P [97,108,119,97,121,115] s).2).1=false)(h3:(vE P (zG P (zD P [104,97,115] (zD P [97,108,119,97,121,115] s).2).2).2).1.isEmpty=true) :
 Calls Tryz.prog 191 #[.pointer (some ⟨R,0,none⟩)] w fun e w'=>e=.returned (qO (vH P s).1)/\xN w' R g cap P (vH P s).2/\zB w.heap.size R w w':=by
 have hR:=h.rlt;have hg:=h.glt;have n0:w.heap.size≠R:=by omega
 have m0:w.heap.size≠g:=by omega
 have HC0:=zA h;have HP:Hid (vH P s=(⟨6,0,0,(zG P (zD P [104,97,115] (zD P [97,108,119,97,121,115] s).2).2).1,[],[],0⟩,(vE P (zG P (zD P [104,97,115] (zD P [97,108,119,97,121,115] s).2).2).2).2)):=by unfold Hid vH;simp only[h1,h2,h3]
 have H1:=zA h1;have H2:=zA h2;have H3:=zA h3;clear h h1 h2 h3;have h3':=H3.out
 go_enter Tryz.func191,Tryz.ntmps191
 go_wp2_with fail
 refine(xL R g cap P _ s [97,108,119,97,121,115] (yA.alloc HC0.out _)).mono ?_;rintro e w1 ⟨rfl,hc1,hk1⟩;rw[H1.out];have HC1:=zA hc1;have HT1:Hid (zB w.heap.size R w w1):=zB.step (zB.new (zB.refl _ _ _)) hk1;have q1_0:=fun o=>hk1.cell (p:=⟨w.heap.size,o,none⟩) (by simp;try omega) n0;have r1_0:=fun o=>hk1.frozen (p:=⟨w.heap.size,o,none⟩) (by simp;try omega) n0;have z1_0:w.heap.size<w1.heap.size:=t8 (by simp;try omega) hk1.size;have b1:w1.heap[w.heap.size]? = some (.cells #[.int .i64 0,.int .i64 0,.int .i64 0,.string ⟨#[]⟩,.string ⟨#[]⟩,.string ⟨#[]⟩,.int .i64 0] 238 (0,0)):=zP (zH _ _) hk1 n0;clear hc1 hk1;go_wp2_with fail
 refine(xL R g cap P _ (zD P [97,108,119,97,121,115] s).2 [104,97,115] HC1.out).mono ?_;rintro e w2 ⟨rfl,hc2,hk2⟩;rw[H2.out];have HC2:=zA hc2;have HT2:Hid (zB w.heap.size R w w2):=zB.step HT1.out hk2;have q2_0:=fun o=>hk2.cell (p:=⟨w.heap.size,o,none⟩) z1_0 n0;have r2_0:=fun o=>hk2.frozen (p:=⟨w.heap.size,o,none⟩) z1_0 n0;have z2_0:w.heap.size<w2.heap.size:=t8 z1_0 hk2.size;have b2:w2.heap[w.heap.size]? = some (.cells #[.int .i64 0,.int .i64 0,.int .i64 0,.string ⟨#[]⟩,.string ⟨#[]⟩,.string ⟨#[]⟩,.int .i64 0] 238 (0,0)):=zP b1 hk2 n0;clear hc2 hk2;have nx:w2.heap.size≠R:=by have h1:=HT2.out.size;omega
 have mx:w2.heap.size≠g:=by have h1:=HT2.out.size;omega
 have lx:w.heap.size<=w2.heap.size:=HT2.out.size;have dx:w2.heap.size≠w.heap.size:=cy z2_0;have fx:w.heap.size≠w2.heap.size:=Nat.ne_of_lt z2_0;have z2_x:True:=trivial;go_wp2_with fail
 refine(pO R g cap P _ (zD P [104,97,115] (zD P [97,108,119,97,121,115] s).2).2 (yA.alloc HC2.out _)).mono ?_;rintro e w3 ⟨rfl,hc3,hk3⟩;have HC3:=zA hc3;have HT3:Hid (zB w.heap.size R w w3):=zB.step (zB.new HT2.out) hk3;have q3_0:=fun o=>hk3.cell (p:=⟨w.heap.size,o,none⟩) (dK z2_0) n0;have r3_0:=fun o=>hk3.frozen (p:=⟨w.heap.size,o,none⟩) (dK z2_0) n0;have z3_0:w.heap.size<w3.heap.size:=t8 (dK z2_0) hk3.size;have q3_x:=fun o=>hk3.cell (p:=⟨w2.heap.size,o,none⟩) (zQ _ _) nx;have r3_x:=fun o=>hk3.frozen (p:=⟨w2.heap.size,o,none⟩) (zQ _ _) nx;have z3_x:w2.heap.size<w3.heap.size:=t8 (zQ _ _) hk3.size;have b3:w3.heap[w.heap.size]? = some (.cells #[.int .i64 0,.int .i64 0,.int .i64 0,.string ⟨#[]⟩,.string ⟨#[]⟩,.string ⟨#[]⟩,.int .i64 0] 238 (0,0)):=zP (zZ b2) hk3 n0;clear hc3 hk3;go_wp2_with fail
 refine(dR _ R g cap P (zG P (zD P [104,97,115] (zD P [97,108,119,97,121,115] s).2).2).2 (yA.set HC3.out nx mx)).mono ?_;rintro e w4 ⟨rfl,hc4,hk4⟩;have HC4:=zA hc4;have HT4:Hid (zB w.heap.size R w w4):=zB.step (zB.set HT3.out lx) hk4;have q4_0:=fun o=>hk4.cell (p:=⟨w.heap.size,o,none⟩) (zI z3_0) n0;have r4_0:=fun o=>hk4.frozen (p:=⟨w.heap.size,o,none⟩) (zI z3_0) n0;have z4_0:w.heap.size<w4.heap.size:=t8 (zI z3_0) hk4.size;have q4_x:=fun o=>hk4.cell (p:=⟨w2.heap.size,o,none⟩) (zI z3_x) nx;have r4_x:=fun o=>hk4.frozen (p:=⟨w2.heap.size,o,none⟩) (zI z3_x) nx;have z4_x:w2.heap.size<w4.heap.size:=t8 (zI z3_x) hk4.size;have b4:w4.heap[w.heap.size]? = some (.cells #[.int .i64 0,.int .i64 0,.int .i64 0,.string ⟨#[]⟩,.string ⟨#[]⟩,.string ⟨#[]⟩,.int .i64 0] 238 (0,0)):=zP (uQ b3 fx) hk4 n0;clear hc4 hk4;go_wp2_with fail
 have cz4:=fun j=>cq _ _ j _ _ _ b4;refine p5 (v:=qO ⟨6,0,0,(zG P (zD P [104,97,115] (zD P [97,108,119,97,121,115] s).2).2).1,[],[],0⟩) (by simp (maxDischargeDepth:=8) [results,Tryz.results191,go_sem,qO,cz4]) rfl ⟨by rw[HP.out],by rw[HP.out];exact(yA.set (yA.set (yA.set (yA.set (yA.set (yA.set (yA.set HC4.out n0 m0) n0 m0) n0 m0) n0 m0) n0 m0) n0 m0) n0 m0),(zB.set (zB.set (zB.set (zB.set (zB.set (zB.set (zB.set HT4.out (j1 _)) (j1 _)) (j1 _)) (j1 _)) (j1 _)) (j1 _)) (j1 _))⟩
theorem zAG(w:World)(R g cap:Nat)(P:List PT)(s:St)(h:xN w R g cap P s)(h1:(zD P [97,108,119,97,121,115] s).1=false)(h2:(zD P [104,97,115] (zD P [97,108,119,97,121,115] s).2).1=false)(h3:(vE P (zG P (zD P [104,97,115] (zD P [97,108,119,97,121,115] s).2).2).2).1.isEmpty=false)(h4:isNum P (vE P (zG P (zD P [104,97,115] (zD P [97,108,119,97,121,115] s).2).2).2).2=true) :
 Calls Tryz.prog 191 #[.pointer (some ⟨R,0,none⟩)] w fun e w'=>e=.returned (qO (vH P s).1)/\xN w' R g cap P (vH P s).2/\zB w.heap.size R w w':=by
 have hR:=h.rlt;have hg:=h.glt;have n0:w.heap.size≠R:=by omega
 have m0:w.heap.size≠g:=by omega
 have HC0:=zA h;have HP:Hid (vH P s=(⟨7,0,0,(zG P (zD P [104,97,115] (zD P [97,108,119,97,121,115] s).2).2).1,(vE P (zG P (zD P [104,97,115] (zD P [97,108,119,97,121,115] s).2).2).2).1,[],(yB P (vE P (zG P (zD P [104,97,115] (zD P [97,108,119,97,121,115] s).2).2).2).2).1⟩,(yB P (vE P (zG P (zD P [104,97,115] (zD P [97,108,119,97,121,115] s).2).2).2).2).2)):=by unfold Hid vH;simp only[h1,h2,h3,h4]
 have H1:=zA h1;have H2:=zA h2;have H3:=zA h3;have H4:=zA h4;clear h h1 h2 h3 h4;have h3':=H3.out
 go_enter Tryz.func191,Tryz.ntmps191
 go_wp2_with fail
 refine(xL R g cap P _ s [97,108,119,97,121,115] (yA.alloc HC0.out _)).mono ?_;rintro e w1 ⟨rfl,hc1,hk1⟩;rw[H1.out];have HC1:=zA hc1;have HT1:Hid (zB w.heap.size R w w1):=zB.step (zB.new (zB.refl _ _ _)) hk1;have q1_0:=fun o=>hk1.cell (p:=⟨w.heap.size,o,none⟩) (by simp;try omega) n0;have r1_0:=fun o=>hk1.frozen (p:=⟨w.heap.size,o,none⟩) (by simp;try omega) n0;have z1_0:w.heap.size<w1.heap.size:=t8 (by simp;try omega) hk1.size;have b1:w1.heap[w.heap.size]? = some (.cells #[.int .i64 0,.int .i64 0,.int .i64 0,.string ⟨#[]⟩,.string ⟨#[]⟩,.string ⟨#[]⟩,.int .i64 0] 238 (0,0)):=zP (zH _ _) hk1 n0;clear hc1 hk1;go_wp2_with fail
 refine(xL R g cap P _ (zD P [97,108,119,97,121,115] s).2 [104,97,115] HC1.out).mono ?_;rintro e w2 ⟨rfl,hc2,hk2⟩;rw[H2.out];have HC2:=zA hc2;have HT2:Hid (zB w.heap.size R w w2):=zB.step HT1.out hk2;have q2_0:=fun o=>hk2.cell (p:=⟨w.heap.size,o,none⟩) z1_0 n0;have r2_0:=fun o=>hk2.frozen (p:=⟨w.heap.size,o,none⟩) z1_0 n0;have z2_0:w.heap.size<w2.heap.size:=t8 z1_0 hk2.size;have b2:w2.heap[w.heap.size]? = some (.cells #[.int .i64 0,.int .i64 0,.int .i64 0,.string ⟨#[]⟩,.string ⟨#[]⟩,.string ⟨#[]⟩,.int .i64 0] 238 (0,0)):=zP b1 hk2 n0;clear hc2 hk2;have nx:w2.heap.size≠R:=by have h1:=HT2.out.size;omega
 have mx:w2.heap.size≠g:=by have h1:=HT2.out.size;omega
 have lx:w.heap.size<=w2.heap.size:=HT2.out.size;have dx:w2.heap.size≠w.heap.size:=cy z2_0;have fx:w.heap.size≠w2.heap.size:=Nat.ne_of_lt z2_0;have z2_x:True:=trivial;go_wp2_with fail
 refine(pO R g cap P _ (zD P [104,97,115] (zD P [97,108,119,97,121,115] s).2).2 (yA.alloc HC2.out _)).mono ?_;rintro e w3 ⟨rfl,hc3,hk3⟩;have HC3:=zA hc3;have HT3:Hid (zB w.heap.size R w w3):=zB.step (zB.new HT2.out) hk3;have q3_0:=fun o=>hk3.cell (p:=⟨w.heap.size,o,none⟩) (dK z2_0) n0;have r3_0:=fun o=>hk3.frozen (p:=⟨w.heap.size,o,none⟩) (dK z2_0) n0;have z3_0:w.heap.size<w3.heap.size:=t8 (dK z2_0) hk3.size;have q3_x:=fun o=>hk3.cell (p:=⟨w2.heap.size,o,none⟩) (zQ _ _) nx;have r3_x:=fun o=>hk3.frozen (p:=⟨w2.heap.size,o,none⟩) (zQ _ _) nx;have z3_x:w2.heap.size<w3.heap.size:=t8 (zQ _ _) hk3.size;have b3:w3.heap[w.heap.size]? = some (.cells #[.int .i64 0,.int .i64 0,.int .i64 0,.string ⟨#[]⟩,.string ⟨#[]⟩,.string ⟨#[]⟩,.int .i64 0] 238 (0,0)):=zP (zZ b2) hk3 n0;clear hc3 hk3;go_wp2_with fail
 refine(dR _ R g cap P (zG P (zD P [104,97,115] (zD P [97,108,119,97,121,115] s).2).2).2 (yA.set HC3.out nx mx)).mono ?_;rintro e w4 ⟨rfl,hc4,hk4⟩;have HC4:=zA hc4;have HT4:Hid (zB w.heap.size R w w4):=zB.step (zB.set HT3.out lx) hk4;have q4_0:=fun o=>hk4.cell (p:=⟨w.heap.size,o,none⟩) (zI z3_0) n0;have r4_0:=fun o=>hk4.frozen (p:=⟨w.heap.size,o,none⟩) (zI z3_0) n0;have z4_0:w.heap.size<w4.heap.size:=t8 (zI z3_0) hk4.size;have q4_x:=fun o=>hk4.cell (p:=⟨w2.heap.size,o,none⟩) (zI z3_x) nx;have r4_x:=fun o=>hk4.frozen (p:=⟨w2.heap.size,o,none⟩) (zI z3_x) nx;have z4_x:w2.heap.size<w4.heap.size:=t8 (zI z3_x) hk4.size;have b4:w4.heap[w.heap.size]? = some (.cells #[.int .i64 0,.int .i64 0,.int .i64 0,.string ⟨#[]⟩,.string ⟨#[]⟩,.string ⟨#[]⟩,.int .i64 0] 238 (0,0)):=zP (uQ b3 fx) hk4 n0;clear hc4 hk4;go_wp2_with fail
 refine(oM R g cap P _ (vE P (zG P (zD P [104,97,115] (zD P [97,108,119,97,121,115] s).2).2).2).2 3 (yA.set (yA.set HC4.out nx mx) nx mx)).mono ?_;rintro e w5 ⟨rfl,hc5,hk5⟩;rw[show ((yJ P (vE P (zG P (zD P [104,97,115] (zD P [97,108,119,97,121,115] s).2).2).2).2.1).k==3)=true from H4.out];have HC5:=zA hc5;have HT5:Hid (zB w.heap.size R w w5):=zB.step (zB.set (zB.set HT4.out lx) lx) hk5;have q5_0:=fun o=>hk5.cell (p:=⟨w.heap.size,o,none⟩) (zI (zI z4_0)) n0;have r5_0:=fun o=>hk5.frozen (p:=⟨w.heap.size,o,none⟩) (zI (zI z4_0)) n0;have z5_0:w.heap.size<w5.heap.size:=t8 (zI (zI z4_0)) hk5.size;have q5_x:=fun o=>hk5.cell (p:=⟨w2.heap.size,o,none⟩) (zI (zI z4_x)) nx;have r5_x:=fun o=>hk5.frozen (p:=⟨w2.heap.size,o,none⟩) (zI (zI z4_x)) nx;have z5_x:w2.heap.size<w5.heap.size:=t8 (zI (zI z4_x)) hk5.size;have b5:w5.heap[w.heap.size]? = some (.cells #[.int .i64 0,.int .i64 0,.int .i64 0,.string ⟨#[]⟩,.string ⟨#[]⟩,.string ⟨#[]⟩,.int .i64 0] 238 (0,0)):=zP (uQ (uQ b4 fx) fx) hk5 n0;clear hc5 hk5;go_wp2_with fail
 refine(fQ R g cap P _ (vE P (zG P (zD P [104,97,115] (zD P [97,108,119,97,121,115] s).2).2).2).2 HC5.out).mono ?_;rintro e w6 ⟨rfl,hc6,hk6⟩;have HC6:=zA hc6;have HT6:Hid (zB w.heap.size R w w6):=zB.step HT5.out hk6;have q6_0:=fun o=>hk6.cell (p:=⟨w.heap.size,o,none⟩) z5_0 n0;have r6_0:=fun o=>hk6.frozen (p:=⟨w.heap.size,o,none⟩) z5_0 n0;have z6_0:w.heap.size<w6.heap.size:=t8 z5_0 hk6.size;have q6_x:=fun o=>hk6.cell (p:=⟨w2.heap.size,o,none⟩) z5_x nx;have r6_x:=fun o=>hk6.frozen (p:=⟨w2.heap.size,o,none⟩) z5_x nx;have z6_x:w2.heap.size<w6.heap.size:=t8 z5_x hk6.size;have b6:w6.heap[w.heap.size]? = some (.cells #[.int .i64 0,.int .i64 0,.int .i64 0,.string ⟨#[]⟩,.string ⟨#[]⟩,.string ⟨#[]⟩,.int .i64 0] 238 (0,0)):=zP b5 hk6 n0;clear hc6 hk6;go_wp2_with fail
 have cz6:=fun j=>cq _ _ j _ _ _ b6;refine p5 (v:=qO ⟨7,0,0,(zG P (zD P [104,97,115] (zD P [97,108,119,97,121,115] s).2).2).1,(vE P (zG P (zD P [104,97,115] (zD P [97,108,119,97,121,115] s).2).2).2).1,[],(yB P (vE P (zG P (zD P [104,97,115] (zD P [97,108,119,97,121,115] s).2).2).2).2).1⟩) (by simp (maxDischargeDepth:=8) [results,Tryz.results191,go_sem,qO,cz6]) rfl ⟨by rw[HP.out],by rw[HP.out];exact(yA.set (yA.set (yA.set (yA.set (yA.set (yA.set (yA.set (yA.set HC6.out nx mx) n0 m0) n0 m0) n0 m0) n0 m0) n0 m0) n0 m0) n0 m0),(zB.set (zB.set (zB.set (zB.set (zB.set (zB.set (zB.set (zB.set HT6.out lx) (j1 _)) (j1 _)) (j1 _)) (j1 _)) (j1 _)) (j1 _)) (j1 _))⟩
theorem zAF(w:World)(R g cap:Nat)(P:List PT)(s:St)(h:xN w R g cap P s)(h1:(zD P [97,108,119,97,121,115] s).1=false)(h2:(zD P [104,97,115] (zD P [97,108,119,97,121,115] s).2).1=false)(h3:(vE P (zG P (zD P [104,97,115] (zD P [97,108,119,97,121,115] s).2).2).2).1.isEmpty=false)(h4:isNum P (vE P (zG P (zD P [104,97,115] (zD P [97,108,119,97,121,115] s).2).2).2).2=false) :
 Calls Tryz.prog 191 #[.pointer (some ⟨R,0,none⟩)] w fun e w'=>e=.returned (qO (vH P s).1)/\xN w' R g cap P (vH P s).2/\zB w.heap.size R w w':=by
 have hR:=h.rlt;have hg:=h.glt;have n0:w.heap.size≠R:=by omega
 have m0:w.heap.size≠g:=by omega
 have HC0:=zA h;have HP:Hid (vH P s=(⟨7,0,0,(zG P (zD P [104,97,115] (zD P [97,108,119,97,121,115] s).2).2).1,(vE P (zG P (zD P [104,97,115] (zD P [97,108,119,97,121,115] s).2).2).2).1,(zG P (vE P (zG P (zD P [104,97,115] (zD P [97,108,119,97,121,115] s).2).2).2).2).1,0⟩,(zG P (vE P (zG P (zD P [104,97,115] (zD P [97,108,119,97,121,115] s).2).2).2).2).2)):=by unfold Hid vH;simp only[h1,h2,h3,h4]
 have H1:=zA h1;have H2:=zA h2;have H3:=zA h3;have H4:=zA h4;clear h h1 h2 h3 h4;have h3':=H3.out
 go_enter Tryz.func191,Tryz.ntmps191
 go_wp2_with fail
 refine(xL R g cap P _ s [97,108,119,97,121,115] (yA.alloc HC0.out _)).mono ?_;rintro e w1 ⟨rfl,hc1,hk1⟩;rw[H1.out];have HC1:=zA hc1;have HT1:Hid (zB w.heap.size R w w1):=zB.step (zB.new (zB.refl _ _ _)) hk1;have q1_0:=fun o=>hk1.cell (p:=⟨w.heap.size,o,none⟩) (by simp;try omega) n0;have r1_0:=fun o=>hk1.frozen (p:=⟨w.heap.size,o,none⟩) (by simp;try omega) n0;have z1_0:w.heap.size<w1.heap.size:=t8 (by simp;try omega) hk1.size;have b1:w1.heap[w.heap.size]? = some (.cells #[.int .i64 0,.int .i64 0,.int .i64 0,.string ⟨#[]⟩,.string ⟨#[]⟩,.string ⟨#[]⟩,.int .i64 0] 238 (0,0)):=zP (zH _ _) hk1 n0;clear hc1 hk1;go_wp2_with fail
 refine(xL R g cap P _ (zD P [97,108,119,97,121,115] s).2 [104,97,115] HC1.out).mono ?_;rintro e w2 ⟨rfl,hc2,hk2⟩;rw[H2.out];have HC2:=zA hc2;have HT2:Hid (zB w.heap.size R w w2):=zB.step HT1.out hk2;have q2_0:=fun o=>hk2.cell (p:=⟨w.heap.size,o,none⟩) z1_0 n0;have r2_0:=fun o=>hk2.frozen (p:=⟨w.heap.size,o,none⟩) z1_0 n0;have z2_0:w.heap.size<w2.heap.size:=t8 z1_0 hk2.size;have b2:w2.heap[w.heap.size]? = some (.cells #[.int .i64 0,.int .i64 0,.int .i64 0,.string ⟨#[]⟩,.string ⟨#[]⟩,.string ⟨#[]⟩,.int .i64 0] 238 (0,0)):=zP b1 hk2 n0;clear hc2 hk2;have nx:w2.heap.size≠R:=by have h1:=HT2.out.size;omega
 have mx:w2.heap.size≠g:=by have h1:=HT2.out.size;omega
 have lx:w.heap.size<=w2.heap.size:=HT2.out.size;have dx:w2.heap.size≠w.heap.size:=cy z2_0;have fx:w.heap.size≠w2.heap.size:=Nat.ne_of_lt z2_0;have z2_x:True:=trivial;go_wp2_with fail
 refine(pO R g cap P _ (zD P [104,97,115] (zD P [97,108,119,97,121,115] s).2).2 (yA.alloc HC2.out _)).mono ?_;rintro e w3 ⟨rfl,hc3,hk3⟩;have HC3:=zA hc3;have HT3:Hid (zB w.heap.size R w w3):=zB.step (zB.new HT2.out) hk3;have q3_0:=fun o=>hk3.cell (p:=⟨w.heap.size,o,none⟩) (dK z2_0) n0;have r3_0:=fun o=>hk3.frozen (p:=⟨w.heap.size,o,none⟩) (dK z2_0) n0;have z3_0:w.heap.size<w3.heap.size:=t8 (dK z2_0) hk3.size;have q3_x:=fun o=>hk3.cell (p:=⟨w2.heap.size,o,none⟩) (zQ _ _) nx;have r3_x:=fun o=>hk3.frozen (p:=⟨w2.heap.size,o,none⟩) (zQ _ _) nx;have z3_x:w2.heap.size<w3.heap.size:=t8 (zQ _ _) hk3.size;have b3:w3.heap[w.heap.size]? = some (.cells #[.int .i64 0,.int .i64 0,.int .i64 0,.string ⟨#[]⟩,.string ⟨#[]⟩,.string ⟨#[]⟩,.int .i64 0] 238 (0,0)):=zP (zZ b2) hk3 n0;clear hc3 hk3;go_wp2_with fail
 refine(dR _ R g cap P (zG P (zD P [104,97,115] (zD P [97,108,119,97,121,115] s).2).2).2 (yA.set HC3.out nx mx)).mono ?_;rintro e w4 ⟨rfl,hc4,hk4⟩;have HC4:=zA hc4;have HT4:Hid (zB w.heap.size R w w4):=zB.step (zB.set HT3.out lx) hk4;have q4_0:=fun o=>hk4.cell (p:=⟨w.heap.size,o,none⟩) (zI z3_0) n0;have r4_0:=fun o=>hk4.frozen (p:=⟨w.heap.size,o,none⟩) (zI z3_0) n0;have z4_0:w.heap.size<w4.heap.size:=t8 (zI z3_0) hk4.size;have q4_x:=fun o=>hk4.cell (p:=⟨w2.heap.size,o,none⟩) (zI z3_x) nx;have r4_x:=fun o=>hk4.frozen (p:=⟨w2.heap.size,o,none⟩) (zI z3_x) nx;have z4_x:w2.heap.size<w4.heap.size:=t8 (zI z3_x) hk4.size;have b4:w4.heap[w.heap.size]? = some (.cells #[.int .i64 0,.int .i64 0,.int .i64 0,.string ⟨#[]⟩,.string ⟨#[]⟩,.string ⟨#[]⟩,.int .i64 0] 238 (0,0)):=zP (uQ b3 fx) hk4 n0;clear hc4 hk4;go_wp2_with fail
 refine(oM R g cap P _ (vE P (zG P (zD P [104,97,115] (zD P [97,108,119,97,121,115] s).2).2).2).2 3 (yA.set (yA.set HC4.out nx mx) nx mx)).mono ?_;rintro e w5 ⟨rfl,hc5,hk5⟩;rw[show ((yJ P (vE P (zG P (zD P [104,97,115] (zD P [97,108,119,97,121,115] s).2).2).2).2.1).k==3)=false from H4.out];have HC5:=zA hc5;have HT5:Hid (zB w.heap.size R w w5):=zB.step (zB.set (zB.set HT4.out lx) lx) hk5;have q5_0:=fun o=>hk5.cell (p:=⟨w.heap.size,o,none⟩) (zI (zI z4_0)) n0;have r5_0:=fun o=>hk5.frozen (p:=⟨w.heap.size,o,none⟩) (zI (zI z4_0)) n0;have z5_0:w.heap.size<w5.heap.size:=t8 (zI (zI z4_0)) hk5.size;have q5_x:=fun o=>hk5.cell (p:=⟨w2.heap.size,o,none⟩) (zI (zI z4_x)) nx;have r5_x:=fun o=>hk5.frozen (p:=⟨w2.heap.size,o,none⟩) (zI (zI z4_x)) nx;have z5_x:w2.heap.size<w5.heap.size:=t8 (zI (zI z4_x)) hk5.size;have b5:w5.heap[w.heap.size]? = some (.cells #[.int .i64 0,.int .i64 0,.int .i64 0,.string ⟨#[]⟩,.string ⟨#[]⟩,.string ⟨#[]⟩,.int .i64 0] 238 (0,0)):=zP (uQ (uQ b4 fx) fx) hk5 n0;clear hc5 hk5;go_wp2_with fail
 refine(pO R g cap P _ (vE P (zG P (zD P [104,97,115] (zD P [97,108,119,97,121,115] s).2).2).2).2 HC5.out).mono ?_;rintro e w6 ⟨rfl,hc6,hk6⟩;have HC6:=zA hc6;have HT6:Hid (zB w.heap.size R w w6):=zB.step HT5.out hk6;have q6_0:=fun o=>hk6.cell (p:=⟨w.heap.size,o,none⟩) z5_0 n0;have r6_0:=fun o=>hk6.frozen (p:=⟨w.heap.size,o,none⟩) z5_0 n0;have z6_0:w.heap.size<w6.heap.size:=t8 z5_0 hk6.size;have q6_x:=fun o=>hk6.cell (p:=⟨w2.heap.size,o,none⟩) z5_x nx;have r6_x:=fun o=>hk6.frozen (p:=⟨w2.heap.size,o,none⟩) z5_x nx;have z6_x:w2.heap.size<w6.heap.size:=t8 z5_x hk6.size;have b6:w6.heap[w.heap.size]? = some (.cells #[.int .i64 0,.int .i64 0,.int .i64 0,.string ⟨#[]⟩,.string ⟨#[]⟩,.string ⟨#[]⟩,.int .i64 0] 238 (0,0)):=zP b5 hk6 n0;clear hc6 hk6;go_wp2_with fail
 have cz6:=fun j=>cq _ _ j _ _ _ b6;refine p5 (v:=qO ⟨7,0,0,(zG P (zD P [104,97,115] (zD P [97,108,119,97,121,115] s).2).2).1,(vE P (zG P (zD P [104,97,115] (zD P [97,108,119,97,121,115] s).2).2).2).1,(zG P (vE P (zG P (zD P [104,97,115] (zD P [97,108,119,97,121,115] s).2).2).2).2).1,0⟩) (by simp (maxDischargeDepth:=8) [results,Tryz.results191,go_sem,qO,cz6]) rfl ⟨by rw[HP.out],by rw[HP.out];exact(yA.set (yA.set (yA.set (yA.set (yA.set (yA.set (yA.set (yA.set HC6.out nx mx) n0 m0) n0 m0) n0 m0) n0 m0) n0 m0) n0 m0) n0 m0),(zB.set (zB.set (zB.set (zB.set (zB.set (zB.set (zB.set (zB.set HT6.out lx) (j1 _)) (j1 _)) (j1 _)) (j1 _)) (j1 _)) (j1 _)) (j1 _))⟩
theorem CO(w:World)(R g cap:Nat)(P:List PT)(s:St)(h:xN w R g cap P s) :
 Calls Tryz.prog 191 #[.pointer (some ⟨R,0,none⟩)] w fun e w'=>e=.returned (qO (vH P s).1)/\xN w' R g cap P (vH P s).2/\zB w.heap.size R w w':=by
 cases h1:(zD P [97,108,119,97,121,115] s).1
 ·cases h2:(zD P [104,97,115] (zD P [97,108,119,97,121,115] s).2).1
  ·cases h3:(vE P (zG P (zD P [104,97,115] (zD P [97,108,119,97,121,115] s).2).2).2).1.isEmpty
   ·cases h4:isNum P (vE P (zG P (zD P [104,97,115] (zD P [97,108,119,97,121,115] s).2).2).2).2
    ·exact zAF w R g cap P s h h1 h2 h3 h4
    ·exact zAG w R g cap P s h h1 h2 h3 h4
   ·exact zAH w R g cap P s h h1 h2 h3
  ·exact zAI w R g cap P s h h1 h2
 ·exact zAJ w R g cap P s h h1
attribute [local go_sem ↓] Go.wp_at_zero Go.wp_at_succ
def Zf(x:zM):List Value:=[.int .i64 x.kind,.int .i64 x.left,.int .i64 x.right,.string ⟨x.name.toArray⟩,.string ⟨x.mark.toArray⟩,.string ⟨x.other.toArray⟩,.int .i64 x.num]
def bW(ns:List zM):List Value:=ns.flatMap Zf
theorem Vg(ns:List zM)(x:zM):bW (ns++[x])=bW ns++Zf x:=by simp[bW]
def gE(nv:Value)(root tests dep:Int):Obj:=.cells #[nv,.int .i64 root,.int .i64 tests,.int .i64 dep] 182 (0,0)
def Gd(w:World)(G:Nat)(nd:List zM)(root tests dep:Int):Prop :=
 ∃nv,w.heap[G]? = some (gE nv root tests dep)/\w.ownsRow (G+1) 238 7 nv nd.length (bW nd)
theorem Fp:(Tryz.prog.info? 238).map (fun i=>(i.zero,i.size,i.bytes))=some (some (.agg #[.int .i64 0,.int .i64 0,.int .i64 0,.string ⟨#[]⟩,.string ⟨#[]⟩,.string ⟨#[]⟩,.int .i64 0]),7,80):=by kernel_rfl
theorem Gd.lt{nd:List zM}(h:Gd w G nd root tests dep):G<w.heap.size:=by
 obtain⟨nv,h1,_⟩:=h;rcases pf G w.heap.size with h2|h2
 ·exact h2
 ·rw[pb h2]at h1;cases h1
theorem ur{nv:Value}(h:w.heap[G]? = some (gE nv root tests dep)):(w.setCell ⟨G,0,none⟩ v).heap[G]? = some (gE v root tests dep):=by
 unfold gE at h ⊢;rw[tj w G 0 _ _ _ h];simp
theorem yS{B:Nat}{e:TypeId}{size:Nat}{n:Nat}{xs:List Value}(h:w.ownsRow B e size v n xs){b o:Nat}{u:Value}(hb:b<B):(w.setCell ⟨b,o,none⟩ u).ownsRow B e size v n xs :=
 ownsRow_setCell_below h (a:=⟨b,o,none⟩) hb u
theorem uw{y:Obj}{row:Option Nat}(hg:((w.alloc x).alloc y).drew.grownBy w1 row)(h:w.frozen? ⟨G,0,none⟩=false)(hG:G<w.heap.size)(hr:some G≠row):w1.frozen? ⟨G,0,none⟩=false:=by
 have hb:w1.heap[G]? = w.heap[G]? := by
  rw[hg.block G (by show G<((w.alloc x).alloc y).heap.size;simp;omega) hr];show ((w.alloc x).alloc y).heap[G]? = _;rw[ld _ _ _ (by simp;omega),ld _ _ _ hG]
 rw[World.frozen?_of_block (w:=w) hb];exact h
theorem qu{y:Obj}{row:Option Nat}(hg:((w.alloc x).alloc y).drew.grownBy w1 row)(h:w.cell? ⟨G,0,none⟩=some v)(hG:G<w.heap.size)(hr:some G≠row):w1.cell? ⟨G,0,none⟩=some v:=by
 have hb:w1.heap[G]? = w.heap[G]? := by
  rw[hg.block G (by show G<((w.alloc x).alloc y).heap.size;simp;omega) hr];show ((w.alloc x).alloc y).heap[G]? = _;rw[ld _ _ _ (by simp;omega),ld _ _ _ hG]
 rw[World.cell?_of_block (w:=w) hb];exact h
theorem J5(w:World)(G:Nat)(nd:List zM)(root tests dep:Int)(x:zM)(h:Gd w G nd root tests dep)(hn:nd.length<=10000) :
 Calls Tryz.prog 189 #[.pointer (some ⟨G,0,none⟩),qO x] w fun e w'=>e=.returned (.int .i64 (nd.length:Nat))/\Gd w' G (nd++[x]) root tests dep/\Below G w w':=by
 obtain⟨i0,hi0,hz0,hz1,hz2⟩:=info_parts Fp;have hG:=h.lt;obtain⟨nv,hg,zEA⟩:=h;have c0:w.cell? ⟨G,0,none⟩=some nv:=by unfold gE at hg;rw[cq w G 0 _ _ _ hg];rfl
 have fz:w.frozen? ⟨G,0,none⟩=false:=by unfold gE at hg;simp[World.frozen?,hg]
 have n0:w.heap.size≠G:=by omega
 have n1:w.heap.size+1≠G:=by omega
 have HG:=zA hg;have HOB:=zA (uG zEA);have hnc:Zf x=[.int .i64 x.kind,.int .i64 x.left,.int .i64 x.right,.string ⟨x.name.toArray⟩,.string ⟨x.mark.toArray⟩,.string ⟨x.other.toArray⟩,.int .i64 x.num]:=rfl;obtain⟨xk,xl,xr,xn,xm,xo,xu⟩:=x;simp only at hnc;simp only[qO];have HX:=zA hnc;have a1:some G≠nv.ownBlock:=fun e=>by have h1:=(HOB.out G e.symm).1;omega
 have a2:some w.heap.size≠nv.ownBlock:=fun e=>by have h1:=(HOB.out w.heap.size e.symm).2;omega
 clear hg hnc
 go_enter Tryz.func189,Tryz.ntmps189
 go_wp2_with fail
 go_region_law ((refine step_append_lies _ (by rfl) _ _ _ (by rfl) (G+1) 238 i0 _ 7 80 Tryz.underlying180 hi0 hz0 hz1 hz2 rfl (by decide) nv nd.length (bW nd) (by rfl) (((zEA.alloc _).alloc _).drew) ⟨w.heap.size+1,0,none⟩ 1 1 (Zf ⟨xk,xl,xr,xn,xm,xo,xu⟩) (by rfl) (by rfl) (by rw[HX.out];exact qB _ _ _ _ rfl (by simp)) (by rw[HX.out];simp[Value.oneCell']) (by decide) (by unfold maxLen;omega) (by omega) (by simp;omega) (w.heap.size+1+1) (by simp) ?_;intro gg cap w1 zEK zEC hat zE9;have fz1:w1.frozen? ⟨G,0,none⟩=false:=uw zEC fz hG a1;have c1':w1.cell? ⟨G,0,none⟩=some nv:=qu zEC c0 hG a1))
 all_goals
  have hbel:Below G w w1:=(((t9 G w).alloc (by omega) _).alloc (by simp;omega) _).drew.grown zEC (by show G<=((w.alloc _).alloc _).heap.size;simp;omega) (fun k hk=>by have h1:=(HOB.out k hk).1;omega)
  have hg1:w1.heap[G]? = some (gE nv root tests dep):=by
   rw[zEC.block G (by show G<((w.alloc _).alloc _).heap.size;simp;omega) a1];show ((w.alloc _).alloc _).heap[G]? = _;rw[ld _ _ _ (by simp;omega),ld _ _ _ hG];exact HG.out
  have HG1:=zA hg1;have HBel:=zA hbel;have HO1:=zA zEK;clear hg1 hbel zEK zEC zEA;go_wp2_with fail
  go_ret
  refine⟨yN (by simp),⟨_,ur HG1.out,?_⟩,HBel.out.setCell (p:=⟨G,0,none⟩) (j1 _) _⟩;rw[Vg,tb];exact yS HO1.out (mq G)
structure GS where
 s:St
 nd:List zM
 tests:Int
 dep:Int
def GS.to(q:GS)(s:St):GS:=⟨s,q.nd,q.tests,q.dep⟩
def GS.add(q:GS)(x:zM):GS:=⟨q.s,q.nd++[x],q.tests,q.dep⟩
def GS.tested(q:GS)(d:Int):GS:=⟨q.s,q.nd,q.tests+1,if q.dep<d then d else q.dep⟩
def pB(P:List PT)(item:GS->Int × GS)(tok:Bs)(kind:Int):Nat->Int->GS->Int × GS
 | 0,left,q=>(left,q)
 | k+1,left,q =>
   match (zD P tok q.s).1 with
   | false=>(left,q.to (zD P tok q.s).2)
   | true=>pB P item tok kind k ((item (q.to (zD P tok q.s).2)).2.nd.length:Nat) ((item (q.to (zD P tok q.s).2)).2.add ⟨kind,left,(item (q.to (zD P tok q.s).2)).1,[],[],[],0⟩)
def lN(P:List PT)(fact:GS->Int->Int × GS)(q:GS)(d:Int):Int × GS:=pB P (fun q=>fact q d) tP 2 P.length (fact q d).1 (fact q d).2
def aT(P:List PT)(fact:GS->Int->Int × GS)(q:GS)(d:Int):Int × GS:=pB P (fun q=>lN P fact q d) rU 1 P.length (lN P fact q d).1 (lN P fact q d).2
def yU(P:List PT):Nat->GS->Int->Int × GS
 | 0,q,_=>(0,q)
 | n+1,q,d =>
   match (zD P xR q.s).1 with
   | true=>(((yU P n (q.to (zD P xR q.s).2) (d+1)).2.nd.length:Nat),(yU P n (q.to (zD P xR q.s).2) (d+1)).2.add ⟨3,(yU P n (q.to (zD P xR q.s).2) (d+1)).1,0,[],[],[],0⟩)
   | false =>
     match (zD P xQ (zD P xR q.s).2).1 with
     | true=>((aT P (yU P n) (q.to (zD P xQ (zD P xR q.s).2).2) (d+1)).1,
      (aT P (yU P n) (q.to (zD P xQ (zD P xR q.s).2).2) (d+1)).2.to (zO P uV (aT P (yU P n) (q.to (zD P xQ (zD P xR q.s).2).2) (d+1)).2.s))
     | false=>((q.nd.length:Nat),(((q.tested d).to (vH P (zD P xQ (zD P xR q.s).2).2).2).add (vH P (zD P xQ (zD P xR q.s).2).2).1))
def lP(P:List PT)(n:Nat):GS->Int->Int × GS:=lN P (yU P n)
def Za(P:List PT)(n:Nat):GS->Int->Int × GS:=aT P (yU P n)
structure aZ(w:World)(R g cap:Nat)(P:List PT)(G:Nat)(root:Int)(q:GS):Prop where
 ctx:xN w R g cap P q.s
 gd:Gd w G q.nd root q.tests q.dep
 rG:R<G
 gG:g<G
theorem Gd.keeps{nd:List zM}(h:Gd w G nd root tests dep)(hk:zB w.heap.size R w w')(hR:R<G):Gd w' G nd root tests dep:=by
 have zE9:=h.lt;obtain⟨nv,h1,h2⟩:=h;exact⟨nv,by rw[hk.block G zE9 (by omega)];exact h1,vO h2 hk (by omega)⟩
theorem aZ.read{g cap:Nat}{P:List PT}{q:GS}{s':St}(h:aZ w R g cap P G root q)(hc:xN w' R g cap P s')(hk:zB w.heap.size R w w'):aZ w' R g cap P G root (q.to s') :=
 ⟨hc,h.gd.keeps hk h.rG,h.rG,h.gG⟩
theorem yA.belowG{g cap:Nat}{P:List PT}{s:St}(h:xN w R g cap P s)(hb:Below G w w')(hR:R<G)(hg:g<G):xN w' R g cap P s:=by
 refine⟨?_,?_,h.gR,t8 h.glt hb.size,h.at',h.cap1,h.cap2,h.many,h.endk⟩
 ·rw[hb.block R hR];exact h.blk
 ·intro i hi
  have hb':∀o,w'.cell? ⟨g,o,none⟩=w.cell? ⟨g,o,none⟩:=fun o=>World.cell?_of_block (w:=w) (hb.block g hg);rw[hb',hb',hb',hb'];exact h.tok i hi
theorem aZ.added{g cap:Nat}{P:List PT}{q:GS}{x:zM}(h:aZ w R g cap P G root q)(hg:Gd w' G (q.nd++[x]) root q.tests q.dep)(hb:Below G w w'):aZ w' R g cap P G root (q.add x) :=
 ⟨h.ctx.belowG hb h.rG h.gG,hg,h.rG,h.gG⟩
def eD(P:List PT)(q:GS):Nat:=q.nd.length+2*(P.length-q.s.1)
structure zb(P:List PT)(q:GS)(d:Int):Prop where
 t0:0<=q.tests
 t1:q.tests<=(q.nd.length:Int)
 room:eD P q<=9000
 d0:0<=d
 d1:d<=(q.s.1:Int)
structure sO(P:List PT)(q q':GS):Prop where
 mono:q.s.1<=q'.s.1
 pot':eD P q'<=eD P q+1
 t0:0<=q'.tests
 t1:q'.tests<=(q'.nd.length:Int)
def Ya(R g cap:Nat)(P:List PT)(G:Nat)(root:Int)(n:Nat):Prop:=∀(w:World) (q:GS) (d:Int),aZ w R g cap P G root q->zb P q d->P.length-q.s.1<=n ->
 Calls Tryz.prog 190 #[.pointer (some ⟨R,0,none⟩),.pointer (some ⟨G,0,none⟩),.int .i64 d] w fun e w'=>e=.returned (.int .i64 (yU P n q d).1)/\aZ w' R g cap P G root (yU P n q d).2/\zB G R w w'/\sO P q (yU P n q d).2
def Xb(R g cap:Nat)(P:List PT)(G:Nat)(root:Int)(n:Nat):Prop:=∀(w:World) (q:GS) (d:Int),aZ w R g cap P G root q->zb P q d->P.length-q.s.1<=n ->
 Calls Tryz.prog 188 #[.pointer (some ⟨R,0,none⟩),.pointer (some ⟨G,0,none⟩),.int .i64 d] w fun e w'=>e=.returned (.int .i64 (lP P n q d).1)/\aZ w' R g cap P G root (lP P n q d).2/\zB G R w w'/\sO P q (lP P n q d).2
def XX(R g cap:Nat)(P:List PT)(G:Nat)(root:Int)(n:Nat):Prop:=∀(w:World) (q:GS) (d:Int),aZ w R g cap P G root q->zb P q d->P.length-q.s.1<=n ->
 Calls Tryz.prog 182 #[.pointer (some ⟨R,0,none⟩),.pointer (some ⟨G,0,none⟩),.int .i64 d] w fun e w'=>e=.returned (.int .i64 (Za P n q d).1)/\aZ w' R g cap P G root (Za P n q d).2/\zB G R w w'/\sO P q (Za P n q d).2
theorem zB.of_size(hk:zB w.heap.size R w w')(hG:G<=w.heap.size):zB G R w w':=hk.mono hG
theorem zB.of_belowG(hb:Below G w w'):zB G R w w':=zB.of_below hb
theorem wW{P:List PT}{q:GS}{t:Bs}(h:(zD P t q.s).1=true)(ha:q.s.1<P.length):eD P (q.to (zD P t q.s).2)+2=eD P q:=by
 unfold eD GS.to;simp only;rw[qI h];omega
theorem Kk{P:List PT}{q:GS}{s:St}(h:q.s.1<=s.1):eD P (q.to s)<=eD P q:=by
 unfold eD GS.to;simp only;omega
def Ug(L R:Nat)(w:World):Nat:=L-Dt w R
theorem aZ.meas{g cap:Nat}{P:List PT}{q:GS}(h:aZ w R g cap P G root q):Ug P.length R w=P.length-q.s.1:=by
 unfold Ug;rw[yA.rdAt h.ctx]
end Go.Proofs.YtnbpdffdnphbeabGreatDoor
